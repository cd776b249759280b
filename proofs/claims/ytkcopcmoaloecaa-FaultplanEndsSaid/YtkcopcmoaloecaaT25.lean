import Derived.Test.YtkcopcmoaloecaaT24
namespace Go.Proofs.Ytkcopcmoaloecaa.Fp
open Go Go.RowKit
set_option linter.unusedVariables false
set_option linter.unusedSimpArgs false
theorem planC (c : Fc) (w : World) : Calls Try.prog 13 #[fV c] w (PlR c w) := by
  obtain ⟨wr, rg, pr, sh, fi, be, bu, en, wb, tr, ow, on, ca, ba, di, fu, mi⟩ := c
  exact plan_any wr rg pr sh fi be bu en wb tr ow on ca ba di fu mi w
theorem afterC (c : Fc) (w : World) : Calls Try.prog 15 #[fV c] w fun e w' => e = .returned (.tuple #[fV (afE c), .bool (dnE c), .int .i64 (chk c)]) ∧ Below w.heap.size w w' := by
  obtain ⟨wr, rg, pr, sh, fi, be, bu, en, wb, tr, ow, on, ca, ba, di, fu, mi⟩ := c
  exact after_any wr rg pr sh fi be bu en wb tr ow on ca ba di fu mi w
theorem CBof {w w' : World} {g h : Nat} {c d : Fc} (h1 : CB w g c) : CB (w.setRow g (fC d)) g d := box_row h1
set_option maxRecDepth 100000 in
set_option maxHeartbeats 16000000 in
theorem law_ends (wr rg : Bool) (pr : Int) (sh fi be bu : Bool) (en : Int) (wb tr ow on ca ba di fu : Bool) (mi : Int) (w : World) : Calls Try.prog 6 #[.agg #[.bool wr, .bool rg, .int .i64 pr, .bool sh, .bool fi, .bool be, .bool bu, .int .i64 en, .bool wb, .bool tr, .bool ow, .bool on, .bool ca, .bool ba, .bool di, .bool fu, .int .i64 mi]] w fun e w' => e = .returned (.bool true) ∧ Below w.heap.size w w' := by
  have AWK := hide (fun w => awake_any w)
  have CP := fun w => plan_any wr rg pr sh fi be bu en wb tr ow on ca ba di fu mi w
  unfold PlR at CP
  obtain ⟨ch, hch⟩ : ∃ n, n = chk ⟨wr, rg, pr, sh, fi, be, bu, en, wb, tr, ow, on, ca, ba, di, fu, mi⟩ := ⟨_, rfl⟩
  obtain ⟨P, hP⟩ : ∃ n, n = plE ⟨wr, rg, pr, sh, fi, be, bu, en, wb, tr, ow, on, ca, ba, di, fu, mi⟩ := ⟨_, rfl⟩
  obtain ⟨n0, hn0⟩ : ∃ n, n = ix ⟨wr, rg, pr, sh, fi, be, bu, en, wb, tr, ow, on, ca, ba, di, fu, mi⟩ := ⟨_, rfl⟩
  obtain ⟨f0, hf0⟩ : ∃ n, n = far ⟨wr, rg, pr, sh, fi, be, bu, en, wb, tr, ow, on, ca, ba, di, fu, mi⟩ := ⟨_, rfl⟩
  rw [← hch, ← hP] at CP
  obtain ⟨fa, fe, fw, fk, fu2⟩ := P
  have HF := hide (show ch = 0 → (n0 ≤ 2 ↔ fa = 1) ∧ f0 ≤ 6 from fun h => by
    rw [hch] at h
    have e1 : plE ⟨wr, rg, pr, sh, fi, be, bu, en, wb, tr, ow, on, ca, ba, di, fu, mi⟩ = rp (ix ⟨wr, rg, pr, sh, fi, be, bu, en, wb, tr, ow, on, ca, ba, di, fu, mi⟩) mi := by unfold plE; rw [if_pos h]; rfl
    have e2 := rp_ac1 (m := mi) (ix_le ⟨wr, rg, pr, sh, fi, be, bu, en, wb, tr, ow, on, ca, ba, di, fu, mi⟩)
    rw [← e1, ← hP, ← hn0] at e2
    exact ⟨e2.symm, by rw [hf0]; exact far_le _⟩)
  have HC0 := hide hch
  have HN0 := hide hn0
  have HF0 := hide hf0
  clear hch hP hn0 hf0
  unfold pV at CP
  dsimp only at CP
  replace CP := hide CP
  have K := hide (bal (brefl w) (.cells #[.bool wr, .bool rg, .int .i64 pr, .bool sh, .bool fi, .bool be, .bool bu, .int .i64 en, .bool wb, .bool tr, .bool ow, .bool on, .bool ca, .bool ba, .bool di, .bool fu, .int .i64 mi] 23))
  have X := hide (CB.new w wr rg pr sh fi be bu en wb tr ow on ca ba di fu mi)
  go_enter Try.func6, Try.ntmps6
  go_upto_region 1 with fail
  obtain ⟨W0, hW0⟩ : ∃ W0, W0 = w.alloc (.cells #[.bool wr, .bool rg, .int .i64 pr, .bool sh, .bool fi, .bool be, .bool bu, .int .i64 en, .bool wb, .bool tr, .bool ow, .bool on, .bool ca, .bool ba, .bool di, .bool fu, .int .i64 mi] 23) := ⟨_, rfl⟩
  rw [← hW0] at X K
  obtain ⟨g2, hg2⟩ : ∃ g2, g2 = w.heap.size := ⟨_, rfl⟩
  rw [← hg2] at X
  rw [← hW0, ← hg2]
  have G2 := hide (show w.heap.size ≤ g2 from Nat.le_of_eq hg2.symm)
  clear hW0 hg2
  go_wp2_with (refine wpList_load_row rfl 23 _ rfl g2 rfl 23 _ (0, 0) _ X.out Try.underlying23 rfl (by kernel_rfl) ?_)
  refine (CP.out _).mono ?_
  rintro e w1 ⟨rfl, hb⟩
  replace K := hide (btrans K.out hb)
  replace X := hide (X.out.below hb)
  clear hb
  have LT := hide (CB.lt X.out)
  go_upto_region 2 with fail
  have M : Below w1.heap.size w1 (w1.alloc (.cells #[.int .i64 fa, .int .i64 fe, .int .i64 fw, .int .i64 fk, .int .i64 fu2] 28)) := bal (brefl w1) _
  replace K := hide (btrans K.out M)
  replace X := hide (X.out.below M)
  have Y := hide (show PB (w1.alloc (.cells #[.int .i64 fa, .int .i64 fe, .int .i64 fw, .int .i64 fk, .int .i64 fu2] 28)) w1.heap.size ⟨fa, fe, fw, fk, fu2⟩ from Box.new w1 28 _)
  obtain ⟨g3, hg3⟩ : ∃ q, q = w1.heap.size := ⟨_, rfl⟩
  have Ng3 := hide (show g2 < g3 by rw [hg3]; exact LT.out)
  clear LT
  rw [← hg3] at Y
  rw [← hg3]
  clear hg3
  generalize w1.alloc (.cells #[.int .i64 fa, .int .i64 fe, .int .i64 fw, .int .i64 fk, .int .i64 fu2] 28) = v1 at *
  clear M
  by_cases hc : ch = 0
  rotate_left 1
  · have hb : (ch != 0) = true := bne_iff_ne.2 hc
    go_wp2_with fail
    refine (AWK.out _).mono ?_
    rintro e w9 ⟨rfl, hb⟩
    replace K := hide (btrans K.out hb)
    clear hb
    go_wp2
    go_ret
    exact ⟨rfl, K.out⟩
  replace HF := hide (HF.out hc)
  replace HC0 := hide (show chk ⟨wr, rg, pr, sh, fi, be, bu, en, wb, tr, ow, on, ca, ba, di, fu, mi⟩ = 0 by rw [← HC0.out]; exact hc)
  subst hc
  clear CP
  go_upto_region 4 with fail
  go_wp2
  go_loopw [5, 6, 7, 8, 9, 18] (fun _ _ _ _ _ v wx => ∃ (k : Nat) (c : Fc), v = .int .i64 k ∧ Hid (Below w.heap.size w wx) ∧ Hid (CB wx g2 c) ∧ Hid (PB wx g3 ⟨fa, fe, fw, fk, fu2⟩) ∧ Hid (chk c = 0) ∧ Hid (far c + k ≤ 6) ∧ Hid (ix c ≤ 2 ↔ fa = 1)) (fun _ _ _ _ _ v _ => 8 - (intOf v).toNat)
  case atStart => exact ⟨0, ⟨wr, rg, pr, sh, fi, be, bu, en, wb, tr, ow, on, ca, ba, di, fu, mi⟩, rfl, K, X, Y, HC0, hide (by rw [← HF0.out]; have := HF.out.2; omega), hide (by rw [← HN0.out]; exact HF.out.1)⟩
  case round =>
    clear K X Y HF HC0 HN0 HF0
    obtain ⟨k, c, rfl, K, X, Y, HC, HR, HI⟩ := hrel
    have hk6 : k ≤ 6 := by have := HR.out; omega
    have hk8 : (k : Int) < 8 := by omega
    have CP := fun w => planC c w
    have CA := fun w => afterC c w
    unfold PlR at CP
    have e1 : plE c = rp (ix c) c.mi := by unfold plE; rw [if_pos HC.out]; rfl
    have e2 : afE c = nx c := by unfold afE; rw [if_pos HC.out]
    have e3 : dnE c = dn c := by unfold dnE; rw [decide_eq_true HC.out]; rfl
    rw [e1, HC.out] at CP
    rw [e2, e3, HC.out] at CA
    have a1 := rp_ac1 (m := c.mi) (ix_le c)
    have a0 := rp_ac0 (m := c.mi) (ix_le c)
    have HD := dn_iff c
    have HX := hide (fun h4 => nxt_of HC.out h4)
    clear e1 e2 e3
    obtain ⟨P, hP⟩ : ∃ P, P = rp (ix c) c.mi := ⟨_, rfl⟩
    obtain ⟨D, hD⟩ : ∃ P, P = nx c := ⟨_, rfl⟩
    obtain ⟨bb, hbb⟩ : ∃ P, P = dn c := ⟨_, rfl⟩
    rw [← hP] at CP a1 a0
    rw [← hD, ← hbb] at CA
    rw [← hD] at HX
    rw [← hbb] at HD
    clear hP hD hbb
    obtain ⟨ac, er, wa, ke, us⟩ := P
    dsimp only at a1 a0
    unfold pV at CP
    dsimp only at CP
    replace CP := hide CP
    replace CA := hide CA
    replace a1 := hide a1
    replace a0 := hide a0
    replace HD := hide HD
    go_wp2_with (refine wpList_load_row rfl 23 _ rfl g2 rfl 23 _ (0, 0) _ X.out Try.underlying23 rfl (by kernel_rfl) ?_)
    refine (CP.out _).mono ?_
    rintro e w2 ⟨rfl, hb⟩
    replace K := hide (btrans K.out hb)
    replace X := hide (X.out.below hb)
    replace Y := hide (Y.out.below hb)
    clear hb
    go_upto_region 7 with fail
    have M : Below w2.heap.size w2 (w2.alloc (.cells #[.int .i64 ac, .int .i64 er, .int .i64 wa, .int .i64 ke, .int .i64 us] 28)) := bal (brefl w2) _
    replace K := hide (btrans K.out M)
    replace X := hide (X.out.below M)
    replace Y := hide (Y.out.below M)
    have Q := hide (show PB (w2.alloc (.cells #[.int .i64 ac, .int .i64 er, .int .i64 wa, .int .i64 ke, .int .i64 us] 28)) w2.heap.size ⟨ac, er, wa, ke, us⟩ from Box.new w2 28 _)
    obtain ⟨g4, hg4⟩ : ∃ q, q = w2.heap.size := ⟨_, rfl⟩
    rw [← hg4] at Q
    rw [← hg4]
    clear hg4
    generalize w2.alloc (.cells #[.int .i64 ac, .int .i64 er, .int .i64 wa, .int .i64 ke, .int .i64 us] 28) = v2 at *
    clear M
    go_wp2_with (refine wpList_load_row rfl 23 _ rfl g2 rfl 23 _ (0, 0) _ X.out Try.underlying23 rfl (by kernel_rfl) ?_)
    refine (CA.out _).mono ?_
    rintro e w3 ⟨rfl, hb⟩
    replace K := hide (btrans K.out hb)
    replace X := hide (X.out.below hb)
    replace Y := hide (Y.out.below hb)
    replace Q := hide (Q.out.below hb)
    clear hb
    go_upto_region 8 with (first | (refine wpList_store_row rfl 23 _ _ rfl w3.heap.size (fC D) rfl rfl 23 _ (Box.new w3 23 _) (by kernel_rfl) rfl (by kernel_rfl) ?_))
    have M : Below w3.heap.size w3 ((w3.alloc (.cells #[.bool false, .bool false, .int .i64 0, .bool false, .bool false, .bool false, .bool false, .int .i64 0, .bool false, .bool false, .bool false, .bool false, .bool false, .bool false, .bool false, .bool false, .int .i64 0] 23)).setRow w3.heap.size (fC D)) := row_below2 (bal (brefl w3) _) (Nat.le_refl _)
    replace K := hide (btrans K.out M)
    have X' := hide (X.out.below M)
    clear X
    have X := X'
    clear X'
    have Y' := hide (Y.out.below M)
    clear Y
    have Y := Y'
    clear Y'
    have Q' := hide (Q.out.below M)
    clear Q
    have Q := Q'
    clear Q'
    have Z := hide (show CB ((w3.alloc (.cells #[.bool false, .bool false, .int .i64 0, .bool false, .bool false, .bool false, .bool false, .int .i64 0, .bool false, .bool false, .bool false, .bool false, .bool false, .bool false, .bool false, .bool false, .int .i64 0] 23)).setRow w3.heap.size (fC D)) w3.heap.size D from box_row (Box.new w3 23 _))
    obtain ⟨v3, hv3⟩ : ∃ q, q = (w3.alloc (.cells #[.bool false, .bool false, .int .i64 0, .bool false, .bool false, .bool false, .bool false, .int .i64 0, .bool false, .bool false, .bool false, .bool false, .bool false, .bool false, .bool false, .bool false, .int .i64 0] 23)).setRow w3.heap.size (fC D) := ⟨_, rfl⟩
    obtain ⟨g5, hg5⟩ : ∃ q, q = w3.heap.size := ⟨_, rfl⟩
    rw [← hv3] at K X Y Q Z
    rw [← hg5] at Z
    rw [← hv3, ← hg5]
    clear hv3 hg5 M
    obtain ⟨q0, q1, q2, q3, q4⟩ := Q.out.cells
    obtain ⟨p0', p1, p2, p3, p4⟩ := Y.out.cells
    clear CP CA
    by_cases i1 : ix c ≤ 2
    · obtain rfl : ac = 1 := a1.out.2 i1
      obtain rfl : bb = true := HD.out.2 (by omega)
      obtain rfl : fa = 1 := HI.out.1 i1
      clear a1 a0 HD HX i1
      go_upto_region 11 with fail
      go_wp2_with fail
      refine (AWK.out _).mono ?_
      rintro e w9 ⟨rfl, hb⟩
      replace K := hide (btrans K.out hb)
      clear hb
      go_wp2
      go_ret
      exact ⟨rfl, K.out⟩
    by_cases i2 : ix c = 3
    · obtain rfl : ac = 0 := a0.out.2 i2
      obtain rfl : bb = true := HD.out.2 (by omega)
      have hfa : (fa == 1) = false := beq_eq_false_iff_ne.2 (fun h => i1 (HI.out.2 h))
      clear a1 a0 HD HX i1 i2
      go_upto_region 11 with fail
      go_wp2_with fail
      refine (AWK.out _).mono ?_
      rintro e w9 ⟨rfl, hb⟩
      replace K := hide (btrans K.out hb)
      clear hb
      go_wp2
      go_ret
      exact ⟨rfl, K.out⟩
    have b1 : (ac == 1) = false := beq_eq_false_iff_ne.2 (fun h => i1 (a1.out.1 h))
    have b0 : (ac == 0) = false := beq_eq_false_iff_ne.2 (fun h => i2 (a0.out.1 h))
    have NX := hide (HX.out (by omega))
    have hfa := hide (show fa ≠ 1 from fun h => i1 (HI.out.2 h))
    have hbb : bb = false := by
      cases e : bb
      · rfl
      · have := HD.out.1 e; omega
    subst hbb
    clear a1 a0 HD HX i1 i2
    have K2 := hide (show Below w.heap.size w (v3.setRow g2 (fC D)) from row_below2 K.out G2.out)
    have X2 := hide (show CB (v3.setRow g2 (fC D)) g2 D from box_row X.out)
    have Y2 := hide (show PB (v3.setRow g2 (fC D)) g3 ⟨fa, fe, fw, fk, fu2⟩ from box_row_far Y.out (by have := Ng3.out; omega))
    go_wp2_with (first | (refine wpList_load_row rfl 23 _ rfl g5 rfl 23 _ (0, 0) _ Z.out Try.underlying23 rfl (by kernel_rfl) ?_) | (refine wpList_store_row rfl 23 _ _ rfl g2 (fC D) rfl rfl 23 _ X.out (by kernel_rfl) rfl (by kernel_rfl) ?_))
    go_roundw
    case rel => exact ⟨k + 1, D, by go_num, K2, X2, Y2, hide NX.out.1, hide (by have := NX.out.2.1; have := HR.out; omega), hide ⟨fun h => (by have := ix_low NX.out.2.2.1 NX.out.2.2.2.1 NX.out.2.2.2.2.1; omega), fun h => absurd h hfa.out⟩⟩
    case measure => simp [intOf]; omega
end Go.Proofs.Ytkcopcmoaloecaa.Fp
