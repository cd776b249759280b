import Derived.Test.YtflplldamefhoaaAw0
namespace Go.Proofs.Ytflplldamefhoaa.Bd
open Go Go.RowKit
set_option linter.unusedVariables false
theorem bi_of {w : World} {A : Option Addr} {n c : Nat} {l : Is} (h : IsI w (.slice A n c) l) : Bi w A l := by
  obtain ⟨A', c', e, _, r⟩ := h
  injection e with e1 e2 e3
  rw [e1]; exact r
theorem zin_of {w : World} {v : Nat → Value} {L : Fl} (V : Vd pA L) (r : RdZ w v L) : ZIn w pA v L := ZIn.of_vd parA V.toLst r
set_option maxRecDepth 100000 in
set_option maxHeartbeats 16000000 in
theorem awake_any (w : World) : Calls Try.prog 14 #[] w fun e w' => e = .returned (.bool true) ∧ Below w.heap.size w w' := by
  have NW := hide (show Calls Try.prog 18 #[.int .i64 0, .int .i64 0, .int .i64 0, .int .i64 20, .int .i64 0] w (ZE (nwE pA) pA (fun x => pA.st ≤ x ∧ x < pA.st + pA.ct) w) from new_any pA (par_pr parA) w)
  rw [nwEA] at NW
  unfold ZE at NW
  go_enter Try.func14, Try.ntmps14
  go_wp2_with fail
  refine NW.out.mono ?_
  rintro e w1 ⟨q, v1, L1, rfl, o1, hb, zg⟩
  obtain ⟨rfl, V, S⟩ := zg.ok rfl
  obtain ⟨A0, A1, A2, A3, A4, c0, c1, c2, c3, c4, hz, o2⟩ := ow_to pA o1 (vd_eq V vdA (fun x => by rw [S x, inA]; simp [pA]))
  rw [hz]
  obtain ⟨b, off, eA, hbl, hcell⟩ := bi_of (o2.rd 2 (by omega)) (show LA 2 ≠ [] by decide)
  subst eA
  have hc16 : w1.cell? ⟨b, off, none⟩ = some (.int .i64 16) := hcell 0 (by decide)
  clear zg V S hz o1 hcell NW
  go_upto_region 2 with (refine wpList_store_row rfl 25 _ _ rfl w1.heap.size (znC pA (sl5 LA A0 A1 (some ⟨b, off, none⟩) A3 A4 c0 c1 c2 c3 c4)) rfl rfl 25 (znC p0 nv) (Box.new w1 25 _) (by kernel_rfl) rfl (one_zone o2.rd) ?_)
  have e2 : (w1.alloc (.cells #[.int .i64 0, .int .i64 0, .int .i64 0, .int .i64 0, .int .i64 0, .slice none 0 0, .slice none 0 0, .slice none 0 0, .slice none 0 0, .slice none 0 0] 25)).setRow w1.heap.size (znC pA (sl5 LA A0 A1 (some ⟨b, off, none⟩) A3 A4 c0 c1 c2 c3 c4)) = w1.alloc (.cells (znC pA (sl5 LA A0 A1 (some ⟨b, off, none⟩) A3 A4 c0 c1 c2 c3 c4)) 25) := setRow_new w1 _ _ 25
  rw [e2]
  obtain ⟨g1, hg1⟩ : ∃ g, g = w1.heap.size := ⟨_, rfl⟩
  have M := bal (brefl w1) (.cells (znC pA (sl5 LA A0 A1 (some ⟨b, off, none⟩) A3 A4 c0 c1 c2 c3 c4)) 25)
  have X1 := hide (show Box (w1.alloc (.cells (znC pA (sl5 LA A0 A1 (some ⟨b, off, none⟩) A3 A4 c0 c1 c2 c3 c4)) 25)) g1 25 (znC pA (sl5 LA A0 A1 (some ⟨b, off, none⟩) A3 A4 c0 c1 c2 c3 c4)) by rw [hg1]; exact Box.new w1 25 _)
  have O1 := hide (o2.below M)
  have K := hide (btrans hb M)
  have h16 : (w1.alloc (.cells (znC pA (sl5 LA A0 A1 (some ⟨b, off, none⟩) A3 A4 c0 c1 c2 c3 c4)) 25)).cell? ⟨b, off, none⟩ = some (.int .i64 16) := (M.cell (p := ⟨b, off, none⟩) hbl).trans hc16
  rw [← hg1]
  clear e2 M o2 hb hc16 hbl
  generalize w1.alloc (.cells (znC pA (sl5 LA A0 A1 (some ⟨b, off, none⟩) A3 A4 c0 c1 c2 c3 c4)) 25) = w2 at *
  clear hg1
  have y0 : w2.cell? ⟨g1, 0, none⟩ = some (.int .i64 0) := X1.out.cell 0
  have y1 : w2.cell? ⟨g1, 1, none⟩ = some (.int .i64 0) := X1.out.cell 1
  have y2 : w2.cell? ⟨g1, 2, none⟩ = some (.int .i64 0) := X1.out.cell 2
  have y3 : w2.cell? ⟨g1, 3, none⟩ = some (.int .i64 20) := X1.out.cell 3
  have y4 : w2.cell? ⟨g1, 4, none⟩ = some (.int .i64 0) := X1.out.cell 4
  have y5 : w2.cell? ⟨g1, 5, none⟩ = some (.slice A0 0 c0) := X1.out.cell 5
  have y6 : w2.cell? ⟨g1, 6, none⟩ = some (.slice A1 0 c1) := X1.out.cell 6
  have y7 : w2.cell? ⟨g1, 7, none⟩ = some (.slice (some ⟨b, off, none⟩) 1 c2) := X1.out.cell 7
  have y8 : w2.cell? ⟨g1, 8, none⟩ = some (.slice A3 0 c3) := X1.out.cell 8
  have y9 : w2.cell? ⟨g1, 9, none⟩ = some (.slice A4 1 c4) := X1.out.cell 9
  have CH := hide (check_any pA (sl5 LA A0 A1 (some ⟨b, off, none⟩) A3 A4 c0 c1 c2 c3 c4) LA w2 (zin_of vdA O1.out.rd))
  rw [chkA] at CH
  go_upto_region 4 with (first | (go_at_call 16; refine CH.out.mono ?_; rintro e w3 ⟨rfl, hb⟩))
  replace X1 := hide (X1.out.below hb)
  replace O1 := hide (O1.out.below hb)
  replace K := hide (btrans K.out hb)
  clear y0 y1 y2 y3 y4 y5 y6 y7 y8 y9
  clear h16 hb CH
  have AL := hide (alloc_any pA (sl5 LA A0 A1 (some ⟨b, off, none⟩) A3 A4 c0 c1 c2 c3 c4) LA 1 w3 (zin_of vdA O1.out.rd))
  rw [alEA, alFA] at AL
  unfold ZE3 at AL
  go_wp2_with (first | (refine wpList_load_row rfl 25 _ rfl g1 rfl 25 (znC pA (sl5 LA A0 A1 (some ⟨b, off, none⟩) A3 A4 c0 c1 c2 c3 c4)) (0, 0) _ X1.out Try.underlying25 rfl (by kernel_rfl) ?_) | fail)
  refine AL.out.mono ?_
  rintro e w4 ⟨q, v1, L1, rfl, o1, hb, zg⟩
  obtain ⟨rfl, V, S⟩ := zg.ok rfl
  obtain ⟨D0, D1, D2, D3, D4, d0, d1, d2, d3, d4, hz, o2⟩ := ow_to pA o1 (vd_eq V vdB (fun x => by rw [S x, alSA]))
  rw [hz]
  obtain ⟨b', off', eA, hbl, hcell⟩ := bi_of (o2.rd 1 (by omega)) (show LB 1 ≠ [] by decide)
  subst eA
  have hc18 : w4.cell? ⟨b', off', none⟩ = some (.int .i64 18) := hcell 0 (by decide)
  replace X1 := hide (X1.out.below hb)
  replace O1 := hide (O1.out.below hb)
  clear zg V S hz o1 hcell AL
  go_upto_region 5 with (refine wpList_store_row rfl 25 _ _ rfl w4.heap.size (znC pA (sl5 LB D0 (some ⟨b', off', none⟩) D2 D3 D4 d0 d1 d2 d3 d4)) rfl rfl 25 (znC p0 nv) (Box.new w4 25 _) (by kernel_rfl) rfl (one_zone o2.rd) ?_)
  have e2 : (w4.alloc (.cells #[.int .i64 0, .int .i64 0, .int .i64 0, .int .i64 0, .int .i64 0, .slice none 0 0, .slice none 0 0, .slice none 0 0, .slice none 0 0, .slice none 0 0] 25)).setRow w4.heap.size (znC pA (sl5 LB D0 (some ⟨b', off', none⟩) D2 D3 D4 d0 d1 d2 d3 d4)) = w4.alloc (.cells (znC pA (sl5 LB D0 (some ⟨b', off', none⟩) D2 D3 D4 d0 d1 d2 d3 d4)) 25) := setRow_new w4 _ _ 25
  rw [e2]
  obtain ⟨g3, hg⟩ : ∃ g, g = w4.heap.size := ⟨_, rfl⟩
  have M := bal (brefl w4) (.cells (znC pA (sl5 LB D0 (some ⟨b', off', none⟩) D2 D3 D4 d0 d1 d2 d3 d4)) 25)
  have X3 := hide (show Box (w4.alloc (.cells (znC pA (sl5 LB D0 (some ⟨b', off', none⟩) D2 D3 D4 d0 d1 d2 d3 d4)) 25)) g3 25 (znC pA (sl5 LB D0 (some ⟨b', off', none⟩) D2 D3 D4 d0 d1 d2 d3 d4)) by rw [hg]; exact Box.new w4 25 _)
  have O3 := hide (o2.below M)
  replace X1 := hide (X1.out.below M)
  replace O1 := hide (O1.out.below M)
  replace K := hide (btrans (btrans K.out hb) M)
  have h18 : (w4.alloc (.cells (znC pA (sl5 LB D0 (some ⟨b', off', none⟩) D2 D3 D4 d0 d1 d2 d3 d4)) 25)).cell? ⟨b', off', none⟩ = some (.int .i64 18) := (M.cell (p := ⟨b', off', none⟩) hbl).trans hc18
  rw [← hg]
  clear e2 M o2
  generalize w4.alloc (.cells (znC pA (sl5 LB D0 (some ⟨b', off', none⟩) D2 D3 D4 d0 d1 d2 d3 d4)) 25) = w5 at *
  clear hg
  clear hb hc18 hbl
  have y0 : w5.cell? ⟨g3, 0, none⟩ = some (.int .i64 0) := X3.out.cell 0
  have y1 : w5.cell? ⟨g3, 1, none⟩ = some (.int .i64 0) := X3.out.cell 1
  have y2 : w5.cell? ⟨g3, 2, none⟩ = some (.int .i64 0) := X3.out.cell 2
  have y3 : w5.cell? ⟨g3, 3, none⟩ = some (.int .i64 20) := X3.out.cell 3
  have y4 : w5.cell? ⟨g3, 4, none⟩ = some (.int .i64 0) := X3.out.cell 4
  have y5 : w5.cell? ⟨g3, 5, none⟩ = some (.slice D0 0 d0) := X3.out.cell 5
  have y6 : w5.cell? ⟨g3, 6, none⟩ = some (.slice (some ⟨b', off', none⟩) 1 d1) := X3.out.cell 6
  have y7 : w5.cell? ⟨g3, 7, none⟩ = some (.slice D2 0 d2) := X3.out.cell 7
  have y8 : w5.cell? ⟨g3, 8, none⟩ = some (.slice D3 0 d3) := X3.out.cell 8
  have y9 : w5.cell? ⟨g3, 9, none⟩ = some (.slice D4 1 d4) := X3.out.cell 9
  have CN := hide (count_any pA (sl5 LB D0 (some ⟨b', off', none⟩) D2 D3 D4 d0 d1 d2 d3 d4) LB w5 (zin_of vdB O3.out.rd))
  rw [cntB] at CN
  have I7 := hide (fun W (r : RdZ W (sl5 LB D0 (some ⟨b', off', none⟩) D2 D3 D4 d0 d1 d2 d3 d4) LB) => isfree_any pA (sl5 LB D0 (some ⟨b', off', none⟩) D2 D3 D4 d0 d1 d2 d3 d4) LB 17 (by unfold i64r; omega) W (zin_of vdB r))
  rw [isB17] at I7
  have I8 := hide (fun W (r : RdZ W (sl5 LB D0 (some ⟨b', off', none⟩) D2 D3 D4 d0 d1 d2 d3 d4) LB) => isfree_any pA (sl5 LB D0 (some ⟨b', off', none⟩) D2 D3 D4 d0 d1 d2 d3 d4) LB 18 (by unfold i64r; omega) W (zin_of vdB r))
  rw [isB18] at I8
  go_wp2_with fail
  refine CN.out.mono ?_
  rintro e w6 ⟨rfl, hb⟩
  replace X1 := hide (X1.out.below hb)
  replace O1 := hide (O1.out.below hb)
  replace X3 := hide (X3.out.below hb)
  replace O3 := hide (O3.out.below hb)
  replace K := hide (btrans K.out hb)
  clear hb
  obtain ⟨z0, z1, z2, z3, z4, z5, z6, z7, z8, z9⟩ := box_all X3.out
  go_wp2_with fail
  refine (I7.out _ O3.out.rd).mono ?_
  rintro e w7 ⟨rfl, hb⟩
  replace X1 := hide (X1.out.below hb)
  replace O1 := hide (O1.out.below hb)
  replace X3 := hide (X3.out.below hb)
  replace O3 := hide (O3.out.below hb)
  replace K := hide (btrans K.out hb)
  clear hb
  clear z0 z1 z2 z3 z4 z5 z6 z7 z8 z9
  obtain ⟨t0, t1, t2, t3, t4, t5, t6, t7, t8, t9⟩ := box_all X3.out
  go_wp2_with fail
  refine (I8.out _ O3.out.rd).mono ?_
  rintro e w8 ⟨rfl, hb⟩
  replace X1 := hide (X1.out.below hb)
  replace O1 := hide (O1.out.below hb)
  replace X3 := hide (X3.out.below hb)
  replace O3 := hide (O3.out.below hb)
  replace K := hide (btrans K.out hb)
  clear hb
  go_upto_region 7 with fail
  clear y0 y1 y2 y3 y4 y5 y6 y7 y8 y9
  clear t0 t1 t2 t3 t4 t5 t6 t7 t8 t9
  clear h18 CN I7 I8
  have FE := hide (free_any pA (sl5 LB D0 (some ⟨b', off', none⟩) D2 D3 D4 d0 d1 d2 d3 d4) LB 16 1 (by unfold i64r; omega) w8 (zin_of vdB O3.out.rd))
  rw [frB] at FE
  unfold ZE at FE
  go_wp2_with (first | (refine wpList_load_row rfl 25 _ rfl g3 rfl 25 (znC pA (sl5 LB D0 (some ⟨b', off', none⟩) D2 D3 D4 d0 d1 d2 d3 d4)) (0, 0) _ X3.out Try.underlying25 rfl (by kernel_rfl) ?_) | fail)
  refine FE.out.mono ?_
  rintro e w9 ⟨q, v1, L1, rfl, o1, hb, zg⟩
  obtain ⟨rfl, V, S⟩ := zg.ok rfl
  obtain ⟨E0, E1, E2, E3, E4, e0, e1, e2, e3, e4, hz, o2⟩ := ow_to pA o1 (vd_eq V vdA (fun x => by rw [S x, frSB]))
  rw [hz]
  replace X1 := hide (X1.out.below hb); replace O1 := hide (O1.out.below hb); replace X3 := hide (X3.out.below hb); replace O3 := hide (O3.out.below hb); replace K := hide (btrans K.out hb)
  clear zg V S hz o1 FE hb
  go_upto_region 8 with (refine wpList_store_row rfl 25 _ _ rfl w9.heap.size (znC pA (sl5 LA E0 E1 E2 E3 E4 e0 e1 e2 e3 e4)) rfl rfl 25 (znC p0 nv) (Box.new w9 25 _) (by kernel_rfl) rfl (one_zone o2.rd) ?_)
  have ee2 : (w9.alloc (.cells #[.int .i64 0, .int .i64 0, .int .i64 0, .int .i64 0, .int .i64 0, .slice none 0 0, .slice none 0 0, .slice none 0 0, .slice none 0 0, .slice none 0 0] 25)).setRow w9.heap.size (znC pA (sl5 LA E0 E1 E2 E3 E4 e0 e1 e2 e3 e4)) = w9.alloc (.cells (znC pA (sl5 LA E0 E1 E2 E3 E4 e0 e1 e2 e3 e4)) 25) := setRow_new w9 _ _ 25
  rw [ee2]
  obtain ⟨g5, hg⟩ : ∃ g, g = w9.heap.size := ⟨_, rfl⟩
  have M := bal (brefl w9) (.cells (znC pA (sl5 LA E0 E1 E2 E3 E4 e0 e1 e2 e3 e4)) 25)
  have X5 := hide (show Box (w9.alloc (.cells (znC pA (sl5 LA E0 E1 E2 E3 E4 e0 e1 e2 e3 e4)) 25)) g5 25 (znC pA (sl5 LA E0 E1 E2 E3 E4 e0 e1 e2 e3 e4)) by rw [hg]; exact Box.new w9 25 _)
  have O5 := hide (o2.below M)
  replace X1 := hide (X1.out.below M)
  replace O1 := hide (O1.out.below M)
  replace X3 := hide (X3.out.below M)
  replace O3 := hide (O3.out.below M)
  replace K := hide (btrans K.out M)
  rw [← hg]
  clear ee2 M o2
  generalize w9.alloc (.cells (znC pA (sl5 LA E0 E1 E2 E3 E4 e0 e1 e2 e3 e4)) 25) = w10 at *
  clear hg
  have SA := hide (same_any pA (sl5 LA E0 E1 E2 E3 E4 e0 e1 e2 e3 e4) (sl5 LA A0 A1 (some ⟨b, off, none⟩) A3 A4 c0 c1 c2 c3 c4) LA LA w10 O5.out.rd O1.out.rd (fun _ _ => rfl) (fun k hk => by rcases cases5 hk with rfl | rfl | rfl | rfl | rfl <;> decide))
  have LG := hide (fun W (r : RdZ W (sl5 LA E0 E1 E2 E3 E4 e0 e1 e2 e3 e4) LA) => larg_any pA (sl5 LA E0 E1 E2 E3 E4 e0 e1 e2 e3 e4) LA W (zin_of vdA r))
  rw [lrgA] at LG
  have UN := hide (fun W (r : RdZ W (sl5 LB D0 (some ⟨b', off', none⟩) D2 D3 D4 d0 d1 d2 d3 d4) LB) => unus_any pA (sl5 LB D0 (some ⟨b', off', none⟩) D2 D3 D4 d0 d1 d2 d3 d4) LB 2 W (zin_of vdB r))
  rw [unuB] at UN
  obtain ⟨y0, y1, y2, y3, y4, y5, y6, y7, y8, y9⟩ := box_all X5.out
  obtain ⟨z0, z1, z2, z3, z4, z5, z6, z7, z8, z9⟩ := box_all X1.out
  go_wp2_with (first | (go_at_call 20; refine SA.out.mono ?_; rintro e w11 ⟨rfl, hb⟩; replace X1 := hide (X1.out.below hb); replace O1 := hide (O1.out.below hb); replace X3 := hide (X3.out.below hb); replace O3 := hide (O3.out.below hb); replace K := hide (btrans K.out hb); replace X5 := hide (X5.out.below hb); replace O5 := hide (O5.out.below hb); clear hb; obtain ⟨s0, s1, s2, s3, s4, s5, s6, s7, s8, s9⟩ := box_all X5.out) | (go_at_call 36; refine (LG.out _ O5.out.rd).mono ?_; rintro e w12 ⟨rfl, hb⟩; replace X1 := hide (X1.out.below hb); replace O1 := hide (O1.out.below hb); replace X3 := hide (X3.out.below hb); replace O3 := hide (O3.out.below hb); replace K := hide (btrans K.out hb); replace X5 := hide (X5.out.below hb); replace O5 := hide (O5.out.below hb); clear hb; obtain ⟨r0, r1, r2, r3, r4, r5, r6, r7, r8, r9⟩ := box_all X3.out) | (go_at_call 38; refine (UN.out _ O3.out.rd).mono ?_; rintro e w13 ⟨rfl, hb⟩; replace X1 := hide (X1.out.below hb); replace O1 := hide (O1.out.below hb); replace X3 := hide (X3.out.below hb); replace O3 := hide (O3.out.below hb); replace K := hide (btrans K.out hb); replace X5 := hide (X5.out.below hb); replace O5 := hide (O5.out.below hb); clear hb))
  go_ret
  exact ⟨rfl, K.out⟩
end Go.Proofs.Ytflplldamefhoaa.Bd
