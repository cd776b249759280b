import Derived.Test.YtoogdggiemacjaaAwK
import Derived.Test.YtoogdggiemacjaaF19
import Derived.Test.YtoogdggiemacjaaF13
import Derived.Test.YtoogdggiemacjaaF12
import Derived.Test.YtoogdggiemacjaaF10
namespace Go.Proofs.Ytoogdggiemacjaa.Cw
open Go Go.RowKit
set_option linter.unusedVariables false
set_option linter.unusedSimpArgs false
theorem big0 : Big K0 := by
  refine ⟨by decide, by decide, fun k hk => ?_⟩
  have : k < 1 := hk
  rcases (show k = 0 ∨ k = 1 by omega) with rfl | rfl <;> decide
theorem big1 : Big K1 := by
  refine ⟨by decide, by decide, fun k hk => ?_⟩
  have : k < 1 := hk
  rcases (show k = 0 ∨ k = 1 by omega) with rfl | rfl <;> decide
theorem big2 : Big K2 := by
  refine ⟨by decide, by decide, fun k hk => ?_⟩
  have : k < 2 := hk
  rcases (show k = 0 ∨ k = 1 by omega) with rfl | rfl <;> decide
theorem big3 : Big K3 := by
  refine ⟨by decide, by decide, fun k hk => ?_⟩
  have : k < 2 := hk
  rcases (show k = 0 ∨ k = 1 by omega) with rfl | rfl <;> decide
theorem big4 : Big K4 := by
  refine ⟨by decide, by decide, fun k hk => ?_⟩
  have : k < 2 := hk
  rcases (show k = 0 ∨ k = 1 by omega) with rfl | rfl <;> decide
theorem big5 : Big K5 := by
  refine ⟨by decide, by decide, fun k hk => ?_⟩
  have : k < 2 := hk
  rcases (show k = 0 ∨ k = 1 by omega) with rfl | rfl <;> decide
theorem big7 : Big K7 := by
  refine ⟨by decide, by decide, fun k hk => ?_⟩
  have : k < 2 := hk
  rcases (show k = 0 ∨ k = 1 by omega) with rfl | rfl <;> decide
theorem big8 : Big K8 := by
  refine ⟨by decide, by decide, fun k hk => ?_⟩
  have : k < 2 := hk
  rcases (show k = 0 ∨ k = 1 by omega) with rfl | rfl <;> decide
theorem c_w1 (As : Option Addr) (cs : Nat) (Af : Option Addr) (cf : Nat) (w : World) (h : CwIn w K0 As cs Af cf) : Calls Try.prog 27 #[.agg #[.int .i64 2, .slice As 1 cs, .slice Af 3 cf, .int .i64 0], .int .i64 0, .int .i64 1, .int .i64 7] w fun e w' => ∃ As' cs' Af' cf', e = .returned (.tuple #[.agg #[.int .i64 2, .slice As' 1 cs', .slice Af' 3 cf', .int .i64 0], .int .i64 0]) ∧ CwIn w' K1 As' cs' Af' cf' ∧ Below w.heap.size w w' := by
  have k := write_any K0 As Af cs cf 0 1 7 w h big0
  rw [kk_w1] at k
  exact k
theorem c_k2 (As : Option Addr) (cs : Nat) (Af : Option Addr) (cf : Nat) (w : World) (h : CwIn w K1 As cs Af cf) : Calls Try.prog 28 #[.agg #[.int .i64 2, .slice As 1 cs, .slice Af 3 cf, .int .i64 0], .int .i64 0] w fun e w' => ∃ As' cs' Af' cf', e = .returned (.tuple #[.agg #[.int .i64 2, .slice As' 2 cs', .slice Af' 3 cf', .int .i64 0], .int .i64 1, .int .i64 0]) ∧ CwIn w' K2 As' cs' Af' cf' ∧ Below w.heap.size w w' := by
  have k := fork_any K1 As Af cs cf 0 w h big1
  rw [kk_k2_] at k
  exact k
theorem c_w3 (As : Option Addr) (cs : Nat) (Af : Option Addr) (cf : Nat) (w : World) (h : CwIn w K2 As cs Af cf) : Calls Try.prog 27 #[.agg #[.int .i64 2, .slice As 2 cs, .slice Af 3 cf, .int .i64 0], .int .i64 1, .int .i64 1, .int .i64 8] w fun e w' => ∃ As' cs' Af' cf', e = .returned (.tuple #[.agg #[.int .i64 2, .slice As' 2 cs', .slice Af' 3 cf', .int .i64 1], .int .i64 0]) ∧ CwIn w' K3 As' cs' Af' cf' ∧ Below w.heap.size w w' := by
  have k := write_any K2 As Af cs cf 1 1 8 w h big2
  rw [kk_w3] at k
  exact k
theorem c_w4 (As : Option Addr) (cs : Nat) (Af : Option Addr) (cf : Nat) (w : World) (h : CwIn w K3 As cs Af cf) : Calls Try.prog 27 #[.agg #[.int .i64 2, .slice As 2 cs, .slice Af 3 cf, .int .i64 1], .int .i64 0, .int .i64 1, .int .i64 9] w fun e w' => ∃ As' cs' Af' cf', e = .returned (.tuple #[.agg #[.int .i64 2, .slice As' 2 cs', .slice Af' 3 cf', .int .i64 1], .int .i64 0]) ∧ CwIn w' K4 As' cs' Af' cf' ∧ Below w.heap.size w w' := by
  have k := write_any K3 As Af cs cf 0 1 9 w h big3
  rw [kk_w4] at k
  exact k
theorem c_w5 (As : Option Addr) (cs : Nat) (Af : Option Addr) (cf : Nat) (w : World) (h : CwIn w K4 As cs Af cf) : Calls Try.prog 27 #[.agg #[.int .i64 2, .slice As 2 cs, .slice Af 3 cf, .int .i64 1], .int .i64 1, .int .i64 0, .int .i64 5] w fun e w' => ∃ As' cs' Af' cf', e = .returned (.tuple #[.agg #[.int .i64 2, .slice As' 2 cs', .slice Af' 3 cf', .int .i64 1], .int .i64 0]) ∧ CwIn w' K5 As' cs' Af' cf' ∧ Below w.heap.size w w' := by
  have k := write_any K4 As Af cs cf 1 0 5 w h big4
  rw [kk_w5] at k
  exact k
theorem c_w6 (As : Option Addr) (cs : Nat) (Af : Option Addr) (cf : Nat) (w : World) (h : CwIn w K5 As cs Af cf) : Calls Try.prog 27 #[.agg #[.int .i64 2, .slice As 2 cs, .slice Af 3 cf, .int .i64 1], .int .i64 0, .int .i64 0, .int .i64 6] w fun e w' => ∃ As' cs' Af' cf', e = .returned (.tuple #[.agg #[.int .i64 0, .slice As' 0 cs', .slice Af' 0 cf', .int .i64 0], .int .i64 16]) ∧ CwIn w' zeroM As' cs' Af' cf' ∧ Below w.heap.size w w' := by
  have k := write_any K5 As Af cs cf 0 0 6 w h big5
  rw [kk_w6] at k
  exact k
theorem c_x7 (As : Option Addr) (cs : Nat) (Af : Option Addr) (cf : Nat) (w : World) (h : CwIn w K5 As cs Af cf) : Calls Try.prog 29 #[.agg #[.int .i64 2, .slice As 2 cs, .slice Af 3 cf, .int .i64 1], .int .i64 1] w fun e w' => ∃ As' cs' Af' cf', e = .returned (.tuple #[.agg #[.int .i64 2, .slice As' 2 cs', .slice Af' 3 cf', .int .i64 1], .int .i64 0]) ∧ CwIn w' K7 As' cs' Af' cf' ∧ Below w.heap.size w w' := by
  have k := exit_any K5 As Af cs cf 1 w h big5
  rw [kk_x7, kk_c7] at k
  exact k
theorem c_w8 (As : Option Addr) (cs : Nat) (Af : Option Addr) (cf : Nat) (w : World) (h : CwIn w K7 As cs Af cf) : Calls Try.prog 27 #[.agg #[.int .i64 2, .slice As 2 cs, .slice Af 3 cf, .int .i64 1], .int .i64 0, .int .i64 0, .int .i64 6] w fun e w' => ∃ As' cs' Af' cf', e = .returned (.tuple #[.agg #[.int .i64 2, .slice As' 2 cs', .slice Af' 3 cf', .int .i64 1], .int .i64 0]) ∧ CwIn w' K8 As' cs' Af' cf' ∧ Below w.heap.size w w' := by
  have k := write_any K7 As Af cs cf 0 0 6 w h big7
  rw [kk_w8] at k
  exact k
theorem c_n0 (w : World) : Calls Try.prog 11 #[.int .i64 3, .int .i64 2] w fun e w' => ∃ As' cs' Af' cf', e = .returned (.tuple #[.agg #[.int .i64 2, .slice As' 1 cs', .slice Af' 3 cf', .int .i64 0], .int .i64 0]) ∧ CwIn w' K0 As' cs' Af' cf' ∧ Below w.heap.size w w' := by
  have k := new_any 3 2 w
  rw [kk_n0] at k
  exact k
theorem c_r1 (As : Option Addr) (cs : Nat) (Af : Option Addr) (cf : Nat) (w : World) (h : CwIn w K3 As cs Af cf) : Calls Try.prog 23 #[.agg #[.int .i64 2, .slice As 2 cs, .slice Af 3 cf, .int .i64 1], .int .i64 0, .int .i64 1] w fun e w' => e = .returned (.tuple #[.int .i64 7, .int .i64 0]) ∧ Below w.heap.size w w' := by
  have k := read_any K3 As Af cs cf 0 1 w h big3
  rw [kk_r1, kk_p1] at k
  exact k
theorem c_r2 (As : Option Addr) (cs : Nat) (Af : Option Addr) (cf : Nat) (w : World) (h : CwIn w K3 As cs Af cf) : Calls Try.prog 23 #[.agg #[.int .i64 2, .slice As 2 cs, .slice Af 3 cf, .int .i64 1], .int .i64 1, .int .i64 1] w fun e w' => e = .returned (.tuple #[.int .i64 8, .int .i64 0]) ∧ Below w.heap.size w w' := by
  have k := read_any K3 As Af cs cf 1 1 w h big3
  rw [kk_r2, kk_p2] at k
  exact k
theorem c_u2 (As : Option Addr) (cs : Nat) (Af : Option Addr) (cf : Nat) (w : World) (h : CwIn w K2 As cs Af cf) : Calls Try.prog 16 #[.agg #[.int .i64 2, .slice As 2 cs, .slice Af 3 cf, .int .i64 0]] w fun e w' => e = .returned (.int .i64 1) ∧ Below w.heap.size w w' := by
  have k := used_any K2 As Af cs cf w h big2
  rw [kk_u2] at k
  exact k
theorem c_u5 (As : Option Addr) (cs : Nat) (Af : Option Addr) (cf : Nat) (w : World) (h : CwIn w K5 As cs Af cf) : Calls Try.prog 16 #[.agg #[.int .i64 2, .slice As 2 cs, .slice Af 3 cf, .int .i64 1]] w fun e w' => e = .returned (.int .i64 3) ∧ Below w.heap.size w w' := by
  have k := used_any K5 As Af cs cf w h big5
  rw [kk_u5] at k
  exact k
theorem c_c8 (As : Option Addr) (cs : Nat) (Af : Option Addr) (cf : Nat) (w : World) (h : CwIn w K8 As cs Af cf) : Calls Try.prog 20 #[.agg #[.int .i64 2, .slice As 2 cs, .slice Af 3 cf, .int .i64 1]] w fun e w' => e = .returned (.int .i64 0) ∧ Below w.heap.size w w' := by
  have k := check_any K8 As Af cs cf w h big8
  rw [kk_c8] at k
  exact k
set_option maxRecDepth 100000 in
set_option maxHeartbeats 16000000 in
theorem awake_any (w : World) : Calls Try.prog 10 #[] w fun e w' => e = .returned (.bool true) ∧ Below w.heap.size w w' := by
  have K := hide (brefl w)
  go_enter Try.func10, Try.ntmps10
  go_wp2_with fail
  refine (c_n0 _).mono ?_
  rintro e w1 ⟨Asa, csa, Afa, cfa, rfl, hin, hb⟩
  replace K := hide (btrans K.out hb)
  have Ia := hide hin
  clear hb hin
  have M := bal (brefl w1) (.cells #[.int .i64 2, .slice Asa 1 csa, .slice Afa 3 cfa, .int .i64 0] 28)
  have Xa := hide (Box.new w1 28 #[.int .i64 2, .slice Asa 1 csa, .slice Afa 3 cfa, .int .i64 0])
  replace K := hide (btrans K.out M)
  replace Ia := hide (Ia.out.below M)
  clear M
  go_upto_region 2 with fail
  generalize hgga : w1.heap.size = ga at *
  clear hgga
  generalize w1.alloc (.cells #[.int .i64 2, .slice Asa 1 csa, .slice Afa 3 cfa, .int .i64 0] 28) = w2 at *
  obtain ⟨xa0, xa1, xa2, xa3⟩ := box4 Xa.out
  go_wp2_with fail
  refine (c_w1 _ _ _ _ _ Ia.out).mono ?_
  rintro e w3 ⟨Asb, csb, Afb, cfb, rfl, hin, hb⟩
  clear xa0 xa1 xa2 xa3
  replace Xa := hide (Xa.out.below hb)
  replace Ia := hide (Ia.out.below hb)
  replace K := hide (btrans K.out hb)
  have Ib := hide hin
  clear hb hin
  have M := bal (brefl w3) (.cells #[.int .i64 2, .slice Asb 1 csb, .slice Afb 3 cfb, .int .i64 0] 28)
  have Xb := hide (Box.new w3 28 #[.int .i64 2, .slice Asb 1 csb, .slice Afb 3 cfb, .int .i64 0])
  replace Xa := hide (Xa.out.below M)
  replace Ia := hide (Ia.out.below M)
  replace K := hide (btrans K.out M)
  replace Ib := hide (Ib.out.below M)
  clear M
  obtain ⟨xa0, xa1, xa2, xa3⟩ := box4 Xa.out
  go_upto_region 3 with fail
  clear xa0 xa1 xa2 xa3
  generalize hggb : w3.heap.size = gb at *
  clear hggb
  generalize w3.alloc (.cells #[.int .i64 2, .slice Asb 1 csb, .slice Afb 3 cfb, .int .i64 0] 28) = w4 at *
  obtain ⟨xa0, xa1, xa2, xa3⟩ := box4 Xa.out
  obtain ⟨xb0, xb1, xb2, xb3⟩ := box4 Xb.out
  clear xa0 xa1 xa2 xa3 Xa Ia
  go_wp2_with fail
  refine (c_k2 _ _ _ _ _ Ib.out).mono ?_
  rintro e w5 ⟨Asc, csc, Afc, cfc, rfl, hin, hb⟩
  clear xb0 xb1 xb2 xb3
  replace Xb := hide (Xb.out.below hb)
  replace Ib := hide (Ib.out.below hb)
  replace K := hide (btrans K.out hb)
  have Ic := hide hin
  clear hb hin
  have M := bal (brefl w5) (.cells #[.int .i64 2, .slice Asc 2 csc, .slice Afc 3 cfc, .int .i64 0] 28)
  have Xc := hide (Box.new w5 28 #[.int .i64 2, .slice Asc 2 csc, .slice Afc 3 cfc, .int .i64 0])
  replace Xb := hide (Xb.out.below M)
  replace Ib := hide (Ib.out.below M)
  replace K := hide (btrans K.out M)
  replace Ic := hide (Ic.out.below M)
  clear M
  obtain ⟨xb0, xb1, xb2, xb3⟩ := box4 Xb.out
  go_upto_region 4 with fail
  clear xb0 xb1 xb2 xb3
  generalize hggc : w5.heap.size = gc at *
  clear hggc
  generalize w5.alloc (.cells #[.int .i64 2, .slice Asc 2 csc, .slice Afc 3 cfc, .int .i64 0] 28) = w6 at *
  obtain ⟨xb0, xb1, xb2, xb3⟩ := box4 Xb.out
  obtain ⟨xc0, xc1, xc2, xc3⟩ := box4 Xc.out
  clear xb0 xb1 xb2 xb3 Xb Ib
  go_wp2_with fail
  refine (c_w3 _ _ _ _ _ Ic.out).mono ?_
  rintro e w7 ⟨Asd, csd, Afd, cfd, rfl, hin, hb⟩
  clear xc0 xc1 xc2 xc3
  replace Xc := hide (Xc.out.below hb)
  replace Ic := hide (Ic.out.below hb)
  replace K := hide (btrans K.out hb)
  have Id := hide hin
  clear hb hin
  have M := bal (brefl w7) (.cells #[.int .i64 2, .slice Asd 2 csd, .slice Afd 3 cfd, .int .i64 1] 28)
  have Xd := hide (Box.new w7 28 #[.int .i64 2, .slice Asd 2 csd, .slice Afd 3 cfd, .int .i64 1])
  replace Xc := hide (Xc.out.below M)
  replace Ic := hide (Ic.out.below M)
  replace K := hide (btrans K.out M)
  replace Id := hide (Id.out.below M)
  clear M
  obtain ⟨xc0, xc1, xc2, xc3⟩ := box4 Xc.out
  go_upto_region 5 with fail
  clear xc0 xc1 xc2 xc3
  generalize hggd : w7.heap.size = gd at *
  clear hggd
  generalize w7.alloc (.cells #[.int .i64 2, .slice Asd 2 csd, .slice Afd 3 cfd, .int .i64 1] 28) = w8 at *
  obtain ⟨xc0, xc1, xc2, xc3⟩ := box4 Xc.out
  obtain ⟨xd0, xd1, xd2, xd3⟩ := box4 Xd.out
  go_wp2_with fail
  refine (c_r1 _ _ _ _ _ Id.out).mono ?_
  rintro e w9 ⟨rfl, hb⟩
  clear xc0 xc1 xc2 xc3 xd0 xd1 xd2 xd3
  replace Xc := hide (Xc.out.below hb)
  replace Ic := hide (Ic.out.below hb)
  replace Xd := hide (Xd.out.below hb)
  replace Id := hide (Id.out.below hb)
  replace K := hide (btrans K.out hb)
  clear hb
  obtain ⟨xc0, xc1, xc2, xc3⟩ := box4 Xc.out
  obtain ⟨xd0, xd1, xd2, xd3⟩ := box4 Xd.out
  go_wp2_with fail
  refine (c_r2 _ _ _ _ _ Id.out).mono ?_
  rintro e w10 ⟨rfl, hb⟩
  clear xc0 xc1 xc2 xc3 xd0 xd1 xd2 xd3
  replace Xc := hide (Xc.out.below hb)
  replace Ic := hide (Ic.out.below hb)
  replace Xd := hide (Xd.out.below hb)
  replace Id := hide (Id.out.below hb)
  replace K := hide (btrans K.out hb)
  clear hb
  obtain ⟨xc0, xc1, xc2, xc3⟩ := box4 Xc.out
  obtain ⟨xd0, xd1, xd2, xd3⟩ := box4 Xd.out
  go_wp2_with fail
  refine (c_w4 _ _ _ _ _ Id.out).mono ?_
  rintro e w11 ⟨Ask, csk, Afk, cfk, rfl, hin, hb⟩
  clear xc0 xc1 xc2 xc3 xd0 xd1 xd2 xd3
  replace Xc := hide (Xc.out.below hb)
  replace Ic := hide (Ic.out.below hb)
  replace Xd := hide (Xd.out.below hb)
  replace Id := hide (Id.out.below hb)
  replace K := hide (btrans K.out hb)
  have Ik := hide hin
  clear hb hin
  have M := bal (brefl w11) (.cells #[.int .i64 2, .slice Ask 2 csk, .slice Afk 3 cfk, .int .i64 1] 28)
  have Xk := hide (Box.new w11 28 #[.int .i64 2, .slice Ask 2 csk, .slice Afk 3 cfk, .int .i64 1])
  replace Xc := hide (Xc.out.below M)
  replace Ic := hide (Ic.out.below M)
  replace Xd := hide (Xd.out.below M)
  replace Id := hide (Id.out.below M)
  replace K := hide (btrans K.out M)
  replace Ik := hide (Ik.out.below M)
  clear M
  obtain ⟨xc0, xc1, xc2, xc3⟩ := box4 Xc.out
  obtain ⟨xd0, xd1, xd2, xd3⟩ := box4 Xd.out
  go_upto_region 8 with fail
  clear xc0 xc1 xc2 xc3 xd0 xd1 xd2 xd3
  generalize hggk : w11.heap.size = gk at *
  clear hggk
  generalize w11.alloc (.cells #[.int .i64 2, .slice Ask 2 csk, .slice Afk 3 cfk, .int .i64 1] 28) = w12 at *
  obtain ⟨xc0, xc1, xc2, xc3⟩ := box4 Xc.out
  obtain ⟨xd0, xd1, xd2, xd3⟩ := box4 Xd.out
  obtain ⟨xk0, xk1, xk2, xk3⟩ := box4 Xk.out
  go_wp2_with fail
  refine (c_w5 _ _ _ _ _ Ik.out).mono ?_
  rintro e w13 ⟨Asm, csm, Afm, cfm, rfl, hin, hb⟩
  clear xc0 xc1 xc2 xc3 xd0 xd1 xd2 xd3 xk0 xk1 xk2 xk3
  replace Xc := hide (Xc.out.below hb)
  replace Ic := hide (Ic.out.below hb)
  replace Xd := hide (Xd.out.below hb)
  replace Id := hide (Id.out.below hb)
  replace Xk := hide (Xk.out.below hb)
  replace Ik := hide (Ik.out.below hb)
  replace K := hide (btrans K.out hb)
  have Im := hide hin
  clear hb hin
  have M := bal (brefl w13) (.cells #[.int .i64 2, .slice Asm 2 csm, .slice Afm 3 cfm, .int .i64 1] 28)
  have Xm := hide (Box.new w13 28 #[.int .i64 2, .slice Asm 2 csm, .slice Afm 3 cfm, .int .i64 1])
  replace Xc := hide (Xc.out.below M)
  replace Ic := hide (Ic.out.below M)
  replace Xd := hide (Xd.out.below M)
  replace Id := hide (Id.out.below M)
  replace Xk := hide (Xk.out.below M)
  replace Ik := hide (Ik.out.below M)
  replace K := hide (btrans K.out M)
  replace Im := hide (Im.out.below M)
  clear M
  obtain ⟨xc0, xc1, xc2, xc3⟩ := box4 Xc.out
  obtain ⟨xd0, xd1, xd2, xd3⟩ := box4 Xd.out
  obtain ⟨xk0, xk1, xk2, xk3⟩ := box4 Xk.out
  go_upto_region 9 with fail
  clear xc0 xc1 xc2 xc3 xd0 xd1 xd2 xd3 xk0 xk1 xk2 xk3
  generalize hggm : w13.heap.size = gm at *
  clear hggm
  generalize w13.alloc (.cells #[.int .i64 2, .slice Asm 2 csm, .slice Afm 3 cfm, .int .i64 1] 28) = w14 at *
  obtain ⟨xc0, xc1, xc2, xc3⟩ := box4 Xc.out
  obtain ⟨xd0, xd1, xd2, xd3⟩ := box4 Xd.out
  obtain ⟨xk0, xk1, xk2, xk3⟩ := box4 Xk.out
  obtain ⟨xm0, xm1, xm2, xm3⟩ := box4 Xm.out
  go_wp2_with fail
  refine (c_w6 _ _ _ _ _ Im.out).mono ?_
  rintro e w15 ⟨Aso, cso, Afo, cfo, rfl, hin, hb⟩
  clear xc0 xc1 xc2 xc3 xd0 xd1 xd2 xd3 xk0 xk1 xk2 xk3 xm0 xm1 xm2 xm3
  replace Xc := hide (Xc.out.below hb)
  replace Ic := hide (Ic.out.below hb)
  replace Xd := hide (Xd.out.below hb)
  replace Id := hide (Id.out.below hb)
  replace Xk := hide (Xk.out.below hb)
  replace Ik := hide (Ik.out.below hb)
  replace Xm := hide (Xm.out.below hb)
  replace Im := hide (Im.out.below hb)
  replace K := hide (btrans K.out hb)
  have Io := hide hin
  clear hb hin
  have M := bal (brefl w15) (.cells #[.int .i64 0, .slice Aso 0 cso, .slice Afo 0 cfo, .int .i64 0] 28)
  have Xo := hide (Box.new w15 28 #[.int .i64 0, .slice Aso 0 cso, .slice Afo 0 cfo, .int .i64 0])
  replace Xc := hide (Xc.out.below M)
  replace Ic := hide (Ic.out.below M)
  replace Xd := hide (Xd.out.below M)
  replace Id := hide (Id.out.below M)
  replace Xk := hide (Xk.out.below M)
  replace Ik := hide (Ik.out.below M)
  replace Xm := hide (Xm.out.below M)
  replace Im := hide (Im.out.below M)
  replace K := hide (btrans K.out M)
  replace Io := hide (Io.out.below M)
  clear M
  obtain ⟨xc0, xc1, xc2, xc3⟩ := box4 Xc.out
  obtain ⟨xd0, xd1, xd2, xd3⟩ := box4 Xd.out
  obtain ⟨xk0, xk1, xk2, xk3⟩ := box4 Xk.out
  obtain ⟨xm0, xm1, xm2, xm3⟩ := box4 Xm.out
  go_upto_region 10 with fail
  clear xc0 xc1 xc2 xc3 xd0 xd1 xd2 xd3 xk0 xk1 xk2 xk3 xm0 xm1 xm2 xm3
  generalize hggo : w15.heap.size = go at *
  clear hggo
  generalize w15.alloc (.cells #[.int .i64 0, .slice Aso 0 cso, .slice Afo 0 cfo, .int .i64 0] 28) = w16 at *
  obtain ⟨xc0, xc1, xc2, xc3⟩ := box4 Xc.out
  obtain ⟨xd0, xd1, xd2, xd3⟩ := box4 Xd.out
  obtain ⟨xk0, xk1, xk2, xk3⟩ := box4 Xk.out
  obtain ⟨xm0, xm1, xm2, xm3⟩ := box4 Xm.out
  obtain ⟨xo0, xo1, xo2, xo3⟩ := box4 Xo.out
  clear xo0 xo1 xo2 xo3 Xo Io
  go_wp2_with fail
  refine (c_x7 _ _ _ _ _ Im.out).mono ?_
  rintro e w17 ⟨Asp, csp, Afp, cfp, rfl, hin, hb⟩
  clear xc0 xc1 xc2 xc3 xd0 xd1 xd2 xd3 xk0 xk1 xk2 xk3 xm0 xm1 xm2 xm3
  replace Xc := hide (Xc.out.below hb)
  replace Ic := hide (Ic.out.below hb)
  replace Xd := hide (Xd.out.below hb)
  replace Id := hide (Id.out.below hb)
  replace Xk := hide (Xk.out.below hb)
  replace Ik := hide (Ik.out.below hb)
  replace Xm := hide (Xm.out.below hb)
  replace Im := hide (Im.out.below hb)
  replace K := hide (btrans K.out hb)
  have Ip := hide hin
  clear hb hin
  have M := bal (brefl w17) (.cells #[.int .i64 2, .slice Asp 2 csp, .slice Afp 3 cfp, .int .i64 1] 28)
  have Xp := hide (Box.new w17 28 #[.int .i64 2, .slice Asp 2 csp, .slice Afp 3 cfp, .int .i64 1])
  replace Xc := hide (Xc.out.below M)
  replace Ic := hide (Ic.out.below M)
  replace Xd := hide (Xd.out.below M)
  replace Id := hide (Id.out.below M)
  replace Xk := hide (Xk.out.below M)
  replace Ik := hide (Ik.out.below M)
  replace Xm := hide (Xm.out.below M)
  replace Im := hide (Im.out.below M)
  replace K := hide (btrans K.out M)
  replace Ip := hide (Ip.out.below M)
  clear M
  obtain ⟨xc0, xc1, xc2, xc3⟩ := box4 Xc.out
  obtain ⟨xd0, xd1, xd2, xd3⟩ := box4 Xd.out
  obtain ⟨xk0, xk1, xk2, xk3⟩ := box4 Xk.out
  obtain ⟨xm0, xm1, xm2, xm3⟩ := box4 Xm.out
  go_upto_region 11 with fail
  clear xc0 xc1 xc2 xc3 xd0 xd1 xd2 xd3 xk0 xk1 xk2 xk3 xm0 xm1 xm2 xm3
  generalize hggp : w17.heap.size = gp at *
  clear hggp
  generalize w17.alloc (.cells #[.int .i64 2, .slice Asp 2 csp, .slice Afp 3 cfp, .int .i64 1] 28) = w18 at *
  obtain ⟨xc0, xc1, xc2, xc3⟩ := box4 Xc.out
  obtain ⟨xd0, xd1, xd2, xd3⟩ := box4 Xd.out
  obtain ⟨xk0, xk1, xk2, xk3⟩ := box4 Xk.out
  obtain ⟨xm0, xm1, xm2, xm3⟩ := box4 Xm.out
  obtain ⟨xp0, xp1, xp2, xp3⟩ := box4 Xp.out
  go_wp2_with fail
  refine (c_w8 _ _ _ _ _ Ip.out).mono ?_
  rintro e w19 ⟨Ass, css, Afs, cfs, rfl, hin, hb⟩
  clear xc0 xc1 xc2 xc3 xd0 xd1 xd2 xd3 xk0 xk1 xk2 xk3 xm0 xm1 xm2 xm3 xp0 xp1 xp2 xp3
  replace Xc := hide (Xc.out.below hb)
  replace Ic := hide (Ic.out.below hb)
  replace Xd := hide (Xd.out.below hb)
  replace Id := hide (Id.out.below hb)
  replace Xk := hide (Xk.out.below hb)
  replace Ik := hide (Ik.out.below hb)
  replace Xm := hide (Xm.out.below hb)
  replace Im := hide (Im.out.below hb)
  replace Xp := hide (Xp.out.below hb)
  replace Ip := hide (Ip.out.below hb)
  replace K := hide (btrans K.out hb)
  have Is := hide hin
  clear hb hin
  have M := bal (brefl w19) (.cells #[.int .i64 2, .slice Ass 2 css, .slice Afs 3 cfs, .int .i64 1] 28)
  have Xs := hide (Box.new w19 28 #[.int .i64 2, .slice Ass 2 css, .slice Afs 3 cfs, .int .i64 1])
  replace Xc := hide (Xc.out.below M)
  replace Ic := hide (Ic.out.below M)
  replace Xd := hide (Xd.out.below M)
  replace Id := hide (Id.out.below M)
  replace Xk := hide (Xk.out.below M)
  replace Ik := hide (Ik.out.below M)
  replace Xm := hide (Xm.out.below M)
  replace Im := hide (Im.out.below M)
  replace Xp := hide (Xp.out.below M)
  replace Ip := hide (Ip.out.below M)
  replace K := hide (btrans K.out M)
  replace Is := hide (Is.out.below M)
  clear M
  obtain ⟨xc0, xc1, xc2, xc3⟩ := box4 Xc.out
  obtain ⟨xd0, xd1, xd2, xd3⟩ := box4 Xd.out
  obtain ⟨xk0, xk1, xk2, xk3⟩ := box4 Xk.out
  obtain ⟨xm0, xm1, xm2, xm3⟩ := box4 Xm.out
  obtain ⟨xp0, xp1, xp2, xp3⟩ := box4 Xp.out
  go_upto_region 12 with fail
  clear xc0 xc1 xc2 xc3 xd0 xd1 xd2 xd3 xk0 xk1 xk2 xk3 xm0 xm1 xm2 xm3 xp0 xp1 xp2 xp3
  generalize hggs : w19.heap.size = gs at *
  clear hggs
  generalize w19.alloc (.cells #[.int .i64 2, .slice Ass 2 css, .slice Afs 3 cfs, .int .i64 1] 28) = w20 at *
  obtain ⟨xc0, xc1, xc2, xc3⟩ := box4 Xc.out
  obtain ⟨xd0, xd1, xd2, xd3⟩ := box4 Xd.out
  obtain ⟨xk0, xk1, xk2, xk3⟩ := box4 Xk.out
  obtain ⟨xm0, xm1, xm2, xm3⟩ := box4 Xm.out
  obtain ⟨xp0, xp1, xp2, xp3⟩ := box4 Xp.out
  obtain ⟨xs0, xs1, xs2, xs3⟩ := box4 Xs.out
  clear xp0 xp1 xp2 xp3 Xp Ip
  go_wp2_with fail
  refine (c_u2 _ _ _ _ _ Ic.out).mono ?_
  rintro e w21 ⟨rfl, hb⟩
  clear xc0 xc1 xc2 xc3 xd0 xd1 xd2 xd3 xk0 xk1 xk2 xk3 xm0 xm1 xm2 xm3 xs0 xs1 xs2 xs3
  replace Xc := hide (Xc.out.below hb)
  replace Ic := hide (Ic.out.below hb)
  replace Xd := hide (Xd.out.below hb)
  replace Id := hide (Id.out.below hb)
  replace Xk := hide (Xk.out.below hb)
  replace Ik := hide (Ik.out.below hb)
  replace Xm := hide (Xm.out.below hb)
  replace Im := hide (Im.out.below hb)
  replace Xs := hide (Xs.out.below hb)
  replace Is := hide (Is.out.below hb)
  replace K := hide (btrans K.out hb)
  clear hb
  obtain ⟨xc0, xc1, xc2, xc3⟩ := box4 Xc.out
  obtain ⟨xd0, xd1, xd2, xd3⟩ := box4 Xd.out
  obtain ⟨xk0, xk1, xk2, xk3⟩ := box4 Xk.out
  obtain ⟨xm0, xm1, xm2, xm3⟩ := box4 Xm.out
  obtain ⟨xs0, xs1, xs2, xs3⟩ := box4 Xs.out
  clear xc0 xc1 xc2 xc3 Xc Ic
  go_wp2_with fail
  refine (c_u5 _ _ _ _ _ Im.out).mono ?_
  rintro e w22 ⟨rfl, hb⟩
  clear xd0 xd1 xd2 xd3 xk0 xk1 xk2 xk3 xm0 xm1 xm2 xm3 xs0 xs1 xs2 xs3
  replace Xd := hide (Xd.out.below hb)
  replace Id := hide (Id.out.below hb)
  replace Xk := hide (Xk.out.below hb)
  replace Ik := hide (Ik.out.below hb)
  replace Xm := hide (Xm.out.below hb)
  replace Im := hide (Im.out.below hb)
  replace Xs := hide (Xs.out.below hb)
  replace Is := hide (Is.out.below hb)
  replace K := hide (btrans K.out hb)
  clear hb
  obtain ⟨xd0, xd1, xd2, xd3⟩ := box4 Xd.out
  obtain ⟨xk0, xk1, xk2, xk3⟩ := box4 Xk.out
  obtain ⟨xm0, xm1, xm2, xm3⟩ := box4 Xm.out
  obtain ⟨xs0, xs1, xs2, xs3⟩ := box4 Xs.out
  clear xm0 xm1 xm2 xm3 Xm Im
  obtain ⟨b1, o1, v1, eA, hl1, t0, t1, hP⟩ := Is.out.rs.cells (brefl _) (show 0 < K8.sp.length by decide)
  obtain ⟨A2, c2, ev, hc2, hR⟩ := hP
  obtain ⟨b2, o2, eA2, hl2, p0, p1⟩ := hR.cells (brefl _) (show 0 < (sAt K8.sp 0).2.length by decide)
  rw [Nat.zero_mul, Nat.add_zero] at t0 t1 p0 p1
  replace t0 := hide t0
  have t1' : w22.cell? ⟨b1, o1 + 1, none⟩ = some (.slice (some ⟨b2, o2, none⟩) 2 c2) := by rw [t1, ev, eA2]; rfl
  have p0' : w22.cell? ⟨b2, o2, none⟩ = some (.int .i64 1) := p0
  have p1' : w22.cell? ⟨b2, o2 + 1, none⟩ = some (.bool true) := p1
  clear t1 p0 p1 hR ev hc2 eA2 t0
  have IS := Is
  clear Is
  subst eA
  have Is := IS
  clear IS
  go_wp2_with fail
  refine (c_c8 _ _ _ _ _ Is.out).mono ?_
  rintro e w99 ⟨rfl, hb⟩
  replace K := hide (btrans K.out hb)
  clear hb
  go_wp2
  go_ret
  exact ⟨rfl, K.out⟩
end Go.Proofs.Ytoogdggiemacjaa.Cw
