import Derived.Test.YtiopfeleaifpbabW6
namespace Go.Proofs.Ytiopfeleaifpbab.Bd
open Go Go.RowKit
set_option linter.unusedVariables false
theorem bi1 {w : World} {g : Nat} {t : TypeId} {z : Int} (h : Box w g t #[.int .i64 z]) : Bi w (some ⟨g, 0, none⟩) [z] := fun _ => ⟨g, 0, rfl, h.lt, fun k hk => by
  obtain rfl : k = 0 := by simp at hk; omega
  exact h.cell 0⟩
theorem bi4 {w : World} {g : Nat} {t : TypeId} {a b c d : Int} (h : Box w g t #[.int .i64 a, .int .i64 b, .int .i64 c, .int .i64 d]) : Bi w (some ⟨g, 0, none⟩) [a, b, c, d] := fun _ => ⟨g, 0, rfl, h.lt, fun k hk => by
  have h4 : k < 4 := by simpa using hk
  rw [Nat.zero_add, h.cell k]
  rcases (show k = 0 ∨ k = 1 ∨ k = 2 ∨ k = 3 by omega) with rfl | rfl | rfl | rfl <;> rfl⟩
def mA : Mk := ⟨6, 8, 9⟩
theorem lvA : lvM 64 6 = ⟨6, 8, 9⟩ ∧ lvE 64 6 = 0 := ⟨by kernel_rfl, by kernel_rfl⟩
theorem lvB : lvM 4 4 = ⟨4, 4, 4⟩ ∧ lvE 4 4 = 0 := ⟨by kernel_rfl, by kernel_rfl⟩
theorem chA : chkM mA = 0 := by kernel_rfl
theorem alal7_00 : decide (alwP [7] mA 0 0) = true := by kernel_rfl
theorem alal6_00 : decide (alwP [6] mA 0 0) = false := by kernel_rfl
theorem alal6_01 : decide (alwP [6] mA 0 1) = true := by kernel_rfl
theorem alsl5_31 : decide (alwP [0, 0, 0, 1] mA 3 1) = false := by kernel_rfl
theorem alsl5_32 : decide (alwP [0, 0, 0, 1] mA 3 2) = true := by kernel_rfl
theorem alsl6_30 : decide (alwP [6, 0, 0, 1] mA 3 0) = false := by kernel_rfl
theorem alsl6_31 : decide (alwP [6, 0, 0, 1] mA 3 1) = false := by kernel_rfl
theorem wk7false : wkM mA 7 false = true := by kernel_rfl
theorem wk8false : wkM mA 8 false = false := by kernel_rfl
theorem wk8true : wkM mA 8 true = true := by kernel_rfl
theorem wk9true : wkM mA 9 true = false := by kernel_rfl
set_option maxRecDepth 100000 in
set_option maxHeartbeats 16000000 in
theorem awake_any (w : World) : Calls Try.prog 10 #[] w fun e w' => e = .returned (.bool true) ∧ Below w.heap.size w w' := by
  have L1 := hide (fun W => (show Calls Try.prog 11 #[.int .i64 64, .int .i64 6] W fun e w' => e = .returned (.tuple #[.agg #[.int .i64 6, .int .i64 8, .int .i64 9], .int .i64 0]) ∧ Below W.heap.size W w' by have := lev_any 64 6 W; unfold LvR at this; rw [lvA.1, lvA.2] at this; exact this))
  have L2 := hide (fun W => (show Calls Try.prog 11 #[.int .i64 4, .int .i64 4] W fun e w' => e = .returned (.tuple #[.agg #[.int .i64 4, .int .i64 4, .int .i64 4], .int .i64 0]) ∧ Below W.heap.size W w' by have := lev_any 4 4 W; unfold LvR at this; rw [lvB.1, lvB.2] at this; exact this))
  go_enter Try.func10, Try.ntmps10
  go_wp2_with fail
  refine (L1.out _).mono ?_
  rintro e w1 ⟨rfl, hb⟩
  have K := hide hb
  clear hb
  have X1 := hide (Box.new w1 23 #[.int .i64 6, .int .i64 8, .int .i64 9])
  have M1 := bal (brefl w1) (.cells #[.int .i64 6, .int .i64 8, .int .i64 9] 23)
  replace K := hide (btrans K.out M1)
  clear M1
  go_upto_region 2 with fail
  obtain ⟨g1, hg1⟩ : ∃ g, g = w1.heap.size := ⟨_, rfl⟩
  rw [← hg1] at X1 ⊢
  generalize w1.alloc (.cells #[.int .i64 6, .int .i64 8, .int .i64 9] 23) = w2 at *
  clear hg1
  go_wp2_with fail
  refine (L2.out _).mono ?_
  rintro e w3 ⟨rfl, hb⟩
  replace X1 := hide (X1.out.below hb)
  replace K := hide (btrans K.out hb)
  clear hb
  have X3 := hide (Box.new w3 23 #[.int .i64 4, .int .i64 4, .int .i64 4])
  have M1 := bal (brefl w3) (.cells #[.int .i64 4, .int .i64 4, .int .i64 4] 23)
  replace X1 := hide (X1.out.below M1)
  replace K := hide (btrans K.out M1)
  clear M1
  go_upto_region 3 with fail
  obtain ⟨g3, hg3⟩ : ∃ g, g = w3.heap.size := ⟨_, rfl⟩
  rw [← hg3] at X3 ⊢
  generalize w3.alloc (.cells #[.int .i64 4, .int .i64 4, .int .i64 4] 23) = w4 at *
  clear hg3 L1 L2
  have X5 := hide (Box.new w4 3 #[.int .i64 0, .int .i64 0, .int .i64 0, .int .i64 1])
  have M1 := bal (brefl w4) (.cells #[.int .i64 0, .int .i64 0, .int .i64 0, .int .i64 1] 3)
  replace X1 := hide (X1.out.below M1)
  replace X3 := hide (X3.out.below M1)
  replace K := hide (btrans K.out M1)
  clear M1
  go_upto_region 4 with fail
  obtain ⟨g5, hg5⟩ : ∃ g, g = w4.heap.size := ⟨_, rfl⟩
  rw [← hg5] at X5 ⊢
  generalize w4.alloc (.cells #[.int .i64 0, .int .i64 0, .int .i64 0, .int .i64 1] 3) = w5 at *
  clear hg5
  have X6 := hide (Box.new w5 3 #[.int .i64 6, .int .i64 0, .int .i64 0, .int .i64 1])
  have M1 := bal (brefl w5) (.cells #[.int .i64 6, .int .i64 0, .int .i64 0, .int .i64 1] 3)
  replace X1 := hide (X1.out.below M1)
  replace X3 := hide (X3.out.below M1)
  replace X5 := hide (X5.out.below M1)
  replace K := hide (btrans K.out M1)
  clear M1
  go_upto_region 5 with fail
  obtain ⟨g6, hg6⟩ : ∃ g, g = w5.heap.size := ⟨_, rfl⟩
  rw [← hg6] at X6 ⊢
  generalize w5.alloc (.cells #[.int .i64 6, .int .i64 0, .int .i64 0, .int .i64 1] 3) = w6 at *
  clear hg6
  have x0 : w6.cell? ⟨g1, 0, none⟩ = some (.int .i64 6) := X1.out.cell 0
  have x1 : w6.cell? ⟨g1, 1, none⟩ = some (.int .i64 8) := X1.out.cell 1
  have x2 : w6.cell? ⟨g1, 2, none⟩ = some (.int .i64 9) := X1.out.cell 2
  have z0 : w6.cell? ⟨g3, 0, none⟩ = some (.int .i64 4) := X3.out.cell 0
  have z1 : w6.cell? ⟨g3, 1, none⟩ = some (.int .i64 4) := X3.out.cell 1
  have z2 : w6.cell? ⟨g3, 2, none⟩ = some (.int .i64 4) := X3.out.cell 2
  go_wp2_with fail
  have C := chk_any mA w6
  rw [chA] at C
  refine C.mono ?_
  rintro e w7 ⟨rfl, hb⟩
  replace X1 := hide (X1.out.below hb)
  replace X5 := hide (X5.out.below hb)
  replace X6 := hide (X6.out.below hb)
  replace K := hide (btrans K.out hb)
  clear x0 x1 x2 z0 z1 z2 X3 hb C
  have x0 : w7.cell? ⟨g1, 0, none⟩ = some (.int .i64 6) := X1.out.cell 0
  have x1 : w7.cell? ⟨g1, 1, none⟩ = some (.int .i64 8) := X1.out.cell 1
  have x2 : w7.cell? ⟨g1, 2, none⟩ = some (.int .i64 9) := X1.out.cell 2
  have hlt := X1.out.lt
  go_wp2_with fail
  have M1 := bal (brefl w7) (.cells #[.int .i64 7] 3)
  have C := allow_any (some ⟨w7.heap.size, 0, none⟩) 1 [7] mA 0 0 (w7.alloc (.cells #[.int .i64 7] 3)) (bi1 (Box.new w7 3 #[.int .i64 7])) (by decide) (by decide)
  rw [alal7_00] at C
  refine C.mono ?_
  rintro e w8 ⟨rfl, hb⟩
  replace X1 := hide (X1.out.below M1)
  replace X5 := hide (X5.out.below M1)
  replace X6 := hide (X6.out.below M1)
  replace K := hide (btrans K.out M1)
  replace X1 := hide (X1.out.below hb)
  replace X5 := hide (X5.out.below hb)
  replace X6 := hide (X6.out.below hb)
  replace K := hide (btrans K.out hb)
  clear x0 x1 x2 hb C M1 hlt
  have x0 : w8.cell? ⟨g1, 0, none⟩ = some (.int .i64 6) := X1.out.cell 0
  have x1 : w8.cell? ⟨g1, 1, none⟩ = some (.int .i64 8) := X1.out.cell 1
  have x2 : w8.cell? ⟨g1, 2, none⟩ = some (.int .i64 9) := X1.out.cell 2
  have hlt := X1.out.lt
  go_wp2_with fail
  have M1 := bal (brefl w8) (.cells #[.int .i64 6] 3)
  have C := allow_any (some ⟨w8.heap.size, 0, none⟩) 1 [6] mA 0 0 (w8.alloc (.cells #[.int .i64 6] 3)) (bi1 (Box.new w8 3 #[.int .i64 6])) (by decide) (by decide)
  rw [alal6_00] at C
  refine C.mono ?_
  rintro e w9 ⟨rfl, hb⟩
  replace X1 := hide (X1.out.below M1)
  replace X5 := hide (X5.out.below M1)
  replace X6 := hide (X6.out.below M1)
  replace K := hide (btrans K.out M1)
  replace X1 := hide (X1.out.below hb)
  replace X5 := hide (X5.out.below hb)
  replace X6 := hide (X6.out.below hb)
  replace K := hide (btrans K.out hb)
  clear x0 x1 x2 hb C M1 hlt
  have x0 : w9.cell? ⟨g1, 0, none⟩ = some (.int .i64 6) := X1.out.cell 0
  have x1 : w9.cell? ⟨g1, 1, none⟩ = some (.int .i64 8) := X1.out.cell 1
  have x2 : w9.cell? ⟨g1, 2, none⟩ = some (.int .i64 9) := X1.out.cell 2
  have hlt := X1.out.lt
  go_wp2_with fail
  have M1 := bal (brefl w9) (.cells #[.int .i64 6] 3)
  have C := allow_any (some ⟨w9.heap.size, 0, none⟩) 1 [6] mA 0 1 (w9.alloc (.cells #[.int .i64 6] 3)) (bi1 (Box.new w9 3 #[.int .i64 6])) (by decide) (by decide)
  rw [alal6_01] at C
  refine C.mono ?_
  rintro e w10 ⟨rfl, hb⟩
  replace X1 := hide (X1.out.below M1)
  replace X5 := hide (X5.out.below M1)
  replace X6 := hide (X6.out.below M1)
  replace K := hide (btrans K.out M1)
  replace X1 := hide (X1.out.below hb)
  replace X5 := hide (X5.out.below hb)
  replace X6 := hide (X6.out.below hb)
  replace K := hide (btrans K.out hb)
  clear x0 x1 x2 hb C M1 hlt
  have x0 : w10.cell? ⟨g1, 0, none⟩ = some (.int .i64 6) := X1.out.cell 0
  have x1 : w10.cell? ⟨g1, 1, none⟩ = some (.int .i64 8) := X1.out.cell 1
  have x2 : w10.cell? ⟨g1, 2, none⟩ = some (.int .i64 9) := X1.out.cell 2
  go_wp2_with fail
  have C := allow_any (some ⟨g5, 0, none⟩) 4 [0, 0, 0, 1] mA 3 1 w10 (bi4 X5.out) (by decide) (by decide)
  rw [alsl5_31] at C
  refine C.mono ?_
  rintro e w11 ⟨rfl, hb⟩
  replace X1 := hide (X1.out.below hb)
  replace X5 := hide (X5.out.below hb)
  replace X6 := hide (X6.out.below hb)
  replace K := hide (btrans K.out hb)
  clear x0 x1 x2 hb C
  have x0 : w11.cell? ⟨g1, 0, none⟩ = some (.int .i64 6) := X1.out.cell 0
  have x1 : w11.cell? ⟨g1, 1, none⟩ = some (.int .i64 8) := X1.out.cell 1
  have x2 : w11.cell? ⟨g1, 2, none⟩ = some (.int .i64 9) := X1.out.cell 2
  go_wp2_with fail
  have C := allow_any (some ⟨g5, 0, none⟩) 4 [0, 0, 0, 1] mA 3 2 w11 (bi4 X5.out) (by decide) (by decide)
  rw [alsl5_32] at C
  refine C.mono ?_
  rintro e w12 ⟨rfl, hb⟩
  replace X1 := hide (X1.out.below hb)
  replace X5 := hide (X5.out.below hb)
  replace X6 := hide (X6.out.below hb)
  replace K := hide (btrans K.out hb)
  clear x0 x1 x2 hb C
  have x0 : w12.cell? ⟨g1, 0, none⟩ = some (.int .i64 6) := X1.out.cell 0
  have x1 : w12.cell? ⟨g1, 1, none⟩ = some (.int .i64 8) := X1.out.cell 1
  have x2 : w12.cell? ⟨g1, 2, none⟩ = some (.int .i64 9) := X1.out.cell 2
  go_wp2_with fail
  have C := allow_any (some ⟨g6, 0, none⟩) 4 [6, 0, 0, 1] mA 3 0 w12 (bi4 X6.out) (by decide) (by decide)
  rw [alsl6_30] at C
  refine C.mono ?_
  rintro e w13 ⟨rfl, hb⟩
  replace X1 := hide (X1.out.below hb)
  replace X5 := hide (X5.out.below hb)
  replace X6 := hide (X6.out.below hb)
  replace K := hide (btrans K.out hb)
  clear x0 x1 x2 hb C
  have x0 : w13.cell? ⟨g1, 0, none⟩ = some (.int .i64 6) := X1.out.cell 0
  have x1 : w13.cell? ⟨g1, 1, none⟩ = some (.int .i64 8) := X1.out.cell 1
  have x2 : w13.cell? ⟨g1, 2, none⟩ = some (.int .i64 9) := X1.out.cell 2
  go_wp2_with fail
  have C := allow_any (some ⟨g6, 0, none⟩) 4 [6, 0, 0, 1] mA 3 1 w13 (bi4 X6.out) (by decide) (by decide)
  rw [alsl6_31] at C
  refine C.mono ?_
  rintro e w14 ⟨rfl, hb⟩
  replace X1 := hide (X1.out.below hb)
  replace X5 := hide (X5.out.below hb)
  replace X6 := hide (X6.out.below hb)
  replace K := hide (btrans K.out hb)
  clear x0 x1 x2 hb C
  have x0 : w14.cell? ⟨g1, 0, none⟩ = some (.int .i64 6) := X1.out.cell 0
  have x1 : w14.cell? ⟨g1, 1, none⟩ = some (.int .i64 8) := X1.out.cell 1
  have x2 : w14.cell? ⟨g1, 2, none⟩ = some (.int .i64 9) := X1.out.cell 2
  go_wp2_with fail
  have C := wak_any mA 7 false w14
  rw [wk7false] at C
  refine C.mono ?_
  rintro e w15 ⟨rfl, hb⟩
  replace X1 := hide (X1.out.below hb)
  replace X5 := hide (X5.out.below hb)
  replace X6 := hide (X6.out.below hb)
  replace K := hide (btrans K.out hb)
  clear x0 x1 x2 hb C
  have x0 : w15.cell? ⟨g1, 0, none⟩ = some (.int .i64 6) := X1.out.cell 0
  have x1 : w15.cell? ⟨g1, 1, none⟩ = some (.int .i64 8) := X1.out.cell 1
  have x2 : w15.cell? ⟨g1, 2, none⟩ = some (.int .i64 9) := X1.out.cell 2
  go_wp2_with fail
  have C := wak_any mA 8 false w15
  rw [wk8false] at C
  refine C.mono ?_
  rintro e w16 ⟨rfl, hb⟩
  replace X1 := hide (X1.out.below hb)
  replace X5 := hide (X5.out.below hb)
  replace X6 := hide (X6.out.below hb)
  replace K := hide (btrans K.out hb)
  clear x0 x1 x2 hb C
  have x0 : w16.cell? ⟨g1, 0, none⟩ = some (.int .i64 6) := X1.out.cell 0
  have x1 : w16.cell? ⟨g1, 1, none⟩ = some (.int .i64 8) := X1.out.cell 1
  have x2 : w16.cell? ⟨g1, 2, none⟩ = some (.int .i64 9) := X1.out.cell 2
  go_wp2_with fail
  have C := wak_any mA 8 true w16
  rw [wk8true] at C
  refine C.mono ?_
  rintro e w17 ⟨rfl, hb⟩
  replace X1 := hide (X1.out.below hb)
  replace X5 := hide (X5.out.below hb)
  replace X6 := hide (X6.out.below hb)
  replace K := hide (btrans K.out hb)
  clear x0 x1 x2 hb C
  have x0 : w17.cell? ⟨g1, 0, none⟩ = some (.int .i64 6) := X1.out.cell 0
  have x1 : w17.cell? ⟨g1, 1, none⟩ = some (.int .i64 8) := X1.out.cell 1
  have x2 : w17.cell? ⟨g1, 2, none⟩ = some (.int .i64 9) := X1.out.cell 2
  go_wp2_with fail
  have C := wak_any mA 9 true w17
  rw [wk9true] at C
  refine C.mono ?_
  rintro e w18 ⟨rfl, hb⟩
  replace X1 := hide (X1.out.below hb)
  replace X5 := hide (X5.out.below hb)
  replace X6 := hide (X6.out.below hb)
  replace K := hide (btrans K.out hb)
  clear x0 x1 x2 hb C
  go_wp2
  go_ret
  exact ⟨rfl, K.out⟩
end Go.Proofs.Ytiopfeleaifpbab.Bd
