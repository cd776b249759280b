import Derived.Test.YtkcopcmoaloecaaT25
namespace Go.Proofs.Ytkcopcmoaloecaa.Fp
open Go Go.RowKit
set_option linter.unusedVariables false
set_option linter.unusedSimpArgs false
theorem rp_7 {k : Nat} {m : Int} (hk : k ≤ 15) : (rp k m).ac = 7 ↔ k = 9 := by
  match k, hk with
  | 0, _ | 1, _ | 2, _ | 3, _ | 4, _ | 5, _ | 6, _ | 7, _ | 8, _ | 9, _ | 10, _ | 11, _ | 12, _ | 13, _ | 14, _ | 15, _ => simp [rp]
theorem rp_9 {k : Nat} {m : Int} (hk : k ≤ 15) : (rp k m).ac = 9 ↔ k = 7 := by
  match k, hk with
  | 0, _ | 1, _ | 2, _ | 3, _ | 4, _ | 5, _ | 6, _ | 7, _ | 8, _ | 9, _ | 10, _ | 11, _ | 12, _ | 13, _ | 14, _ | 15, _ => simp [rp]
theorem nx_priv {c : Fc} (h : chk c = 0) (hr : c.rg = true) : (c.sh = false → (nx c).di = c.di) ∧ (c.sh = true → (nx c).ow = false) ∧ (c.sh = false → (rp (ix c) c.mi).ac ≠ 7) ∧ (c.sh = true → (rp (ix c) c.mi).ac ≠ 9) := by
  have hf := (chk_0 h hr).2.2.2
  have h1 : c.sh = true → c.ow = false := fun e => by
    cases e2 : c.ow
    · rfl
    · unfold fmB at hf; rw [e, e2] at hf; simp at hf
  refine ⟨fun e => ?_, fun e => ?_, fun e h7 => ?_, fun e h9 => ?_⟩
  · rcases Nat.lt_or_ge (ix c) 4 with h4 | h4
    · rw [nx_same (by omega)]
    · exact (nxt_of h h4).2.2.2.2.2.2.2.2.1 e
  · rcases Nat.lt_or_ge (ix c) 4 with h4 | h4
    · rw [nx_same (by omega)]; exact h1 e
    · exact (nxt_of h h4).2.2.2.2.2.2.2.2.2 e
  · have hk := (rp_7 (ix_le c)).1 h7
    have a := ix_is c
    have b := ix_no (c := c) (j := 7) (by omega)
    rw [hk] at a
    simp [rl, e] at a b
    rw [a] at b; cases b
  · have hk := (rp_9 (ix_le c)).1 h9
    have a := ix_is c
    rw [hk] at a
    simp [rl, e] at a
set_option maxRecDepth 100000 in
set_option maxHeartbeats 16000000 in
theorem law_private (wr rg : Bool) (pr : Int) (sh fi be bu : Bool) (en : Int) (wb tr ow on ca ba di fu : Bool) (mi : Int) (w : World) : Calls Try.prog 9 #[.agg #[.bool wr, .bool rg, .int .i64 pr, .bool sh, .bool fi, .bool be, .bool bu, .int .i64 en, .bool wb, .bool tr, .bool ow, .bool on, .bool ca, .bool ba, .bool di, .bool fu, .int .i64 mi]] w fun e w' => e = .returned (.bool true) ∧ Below w.heap.size w w' := by
  have AWK := hide (fun w => awake_any w)
  cases rg
  · have K := hide (bal (brefl w) (.cells #[.bool wr, .bool false, .int .i64 pr, .bool sh, .bool fi, .bool be, .bool bu, .int .i64 en, .bool wb, .bool tr, .bool ow, .bool on, .bool ca, .bool ba, .bool di, .bool fu, .int .i64 mi] 23))
    have X := hide (CB.new w wr false pr sh fi be bu en wb tr ow on ca ba di fu mi)
    go_enter Try.func9, Try.ntmps9
    go_upto_region 1 with fail
    obtain ⟨W0, hW0⟩ : ∃ W0, W0 = w.alloc (.cells #[.bool wr, .bool false, .int .i64 pr, .bool sh, .bool fi, .bool be, .bool bu, .int .i64 en, .bool wb, .bool tr, .bool ow, .bool on, .bool ca, .bool ba, .bool di, .bool fu, .int .i64 mi] 23) := ⟨_, rfl⟩
    rw [← hW0] at X K
    obtain ⟨g2, hg2⟩ : ∃ g2, g2 = w.heap.size := ⟨_, rfl⟩
    rw [← hg2] at X
    rw [← hW0, ← hg2]
    clear hW0 hg2
    obtain ⟨x0, x1, x2, x3, x4, x5, x6, x7, x8, x9, x10, x11, x12, x13, x14, x15, x16⟩ := X.out.cells
    go_wp2_with fail
    refine (AWK.out _).mono ?_
    rintro e w9 ⟨rfl, hb⟩
    replace K := hide (btrans K.out hb)
    clear hb
    go_wp2
    go_ret
    exact ⟨rfl, K.out⟩
  have CR := fun w => rcheck_any wr true pr sh fi be bu en wb tr ow on ca ba di fu mi w
  obtain ⟨ch, hch⟩ : ∃ n, n = chk ⟨wr, true, pr, sh, fi, be, bu, en, wb, tr, ow, on, ca, ba, di, fu, mi⟩ := ⟨_, rfl⟩
  obtain ⟨f0, hf0⟩ : ∃ n, n = far ⟨wr, true, pr, sh, fi, be, bu, en, wb, tr, ow, on, ca, ba, di, fu, mi⟩ := ⟨_, rfl⟩
  rw [← hch] at CR
  have HC0 := hide hch
  have HF0 := hide (show far ⟨wr, true, pr, sh, fi, be, bu, en, wb, tr, ow, on, ca, ba, di, fu, mi⟩ ≤ 6 from far_le _)
  clear hch hf0
  replace CR := hide CR
  have K := hide (bal (brefl w) (.cells #[.bool wr, .bool true, .int .i64 pr, .bool sh, .bool fi, .bool be, .bool bu, .int .i64 en, .bool wb, .bool tr, .bool ow, .bool on, .bool ca, .bool ba, .bool di, .bool fu, .int .i64 mi] 23))
  have X := hide (CB.new w wr true pr sh fi be bu en wb tr ow on ca ba di fu mi)
  go_enter Try.func9, Try.ntmps9
  go_upto_region 1 with fail
  obtain ⟨W0, hW0⟩ : ∃ W0, W0 = w.alloc (.cells #[.bool wr, .bool true, .int .i64 pr, .bool sh, .bool fi, .bool be, .bool bu, .int .i64 en, .bool wb, .bool tr, .bool ow, .bool on, .bool ca, .bool ba, .bool di, .bool fu, .int .i64 mi] 23) := ⟨_, rfl⟩
  rw [← hW0] at X K
  obtain ⟨g2, hg2⟩ : ∃ g2, g2 = w.heap.size := ⟨_, rfl⟩
  rw [← hg2] at X
  rw [← hW0, ← hg2]
  have G2 := hide (show w.heap.size ≤ g2 from Nat.le_of_eq hg2.symm)
  clear hW0 hg2
  obtain ⟨x0, x1, x2, x3, x4, x5, x6, x7, x8, x9, x10, x11, x12, x13, x14, x15, x16⟩ := X.out.cells
  go_wp2_with (refine load_g (by kernel_rfl) 23 _ rfl g2 rfl 23 _ (0, 0) _ X.out Try.underlying23 rfl (by kernel_rfl) ?_)
  refine (CR.out _).mono ?_
  rintro e w1 ⟨rfl, hb⟩
  replace K := hide (btrans K.out hb)
  replace X := hide (X.out.below hb)
  clear hb CR x0 x1 x2 x3 x4 x5 x6 x7 x8 x9 x10 x11 x12 x13 x14 x15 x16
  obtain ⟨x0, x1, x2, x3, x4, x5, x6, x7, x8, x9, x10, x11, x12, x13, x14, x15, x16⟩ := X.out.cells
  by_cases hc : ch = 0
  rotate_left 1
  · have hb : (ch != 0) = true := bne_iff_ne.2 hc
    go_wp2_with fail
    refine (AWK.out _).mono ?_
    rintro e w9 ⟨rfl, hb⟩
    replace K := hide (btrans K.out hb)
    clear hb
    go_wp2
    go_ret
    exact ⟨rfl, K.out⟩
  replace HC0 := hide (show chk ⟨wr, true, pr, sh, fi, be, bu, en, wb, tr, ow, on, ca, ba, di, fu, mi⟩ = 0 by rw [← HC0.out]; exact hc)
  subst hc
  go_upto_region 4 with fail
  clear x0 x1 x2 x3 x4 x5 x6 x7 x8 x9 x10 x11 x12 x13 x14 x15 x16
  go_wp2
  go_loopw [4, 5, 6, 7, 8, 20] (fun _ _ _ _ _ v wx => ∃ (k : Nat) (c : Fc), v = .int .i64 k ∧ Hid (Below w.heap.size w wx) ∧ Hid (CB wx g2 c) ∧ Hid (chk c = 0) ∧ Hid (far c + k ≤ 6) ∧ Hid (c.sh = sh ∧ c.rg = true ∧ (sh = false → c.di = di))) (fun _ _ _ _ _ v _ => 8 - (intOf v).toNat)
  case atStart => exact ⟨0, ⟨wr, true, pr, sh, fi, be, bu, en, wb, tr, ow, on, ca, ba, di, fu, mi⟩, rfl, K, X, HC0, hide (by have := HF0.out; omega), hide ⟨rfl, rfl, fun _ => rfl⟩⟩
  case round =>
    clear K X HC0 HF0
    obtain ⟨k, c, rfl, K, X, HC, HR, HI⟩ := hrel
    have hk6 : k ≤ 6 := by have := HR.out; omega
    have hk8 : (k : Int) < 8 := by omega
    have CP := fun w => planC c w
    have CA := fun w => afterC c w
    unfold PlR at CP
    have e1 : plE c = rp (ix c) c.mi := by unfold plE; rw [if_pos HC.out]; rfl
    have e2 : afE c = nx c := by unfold afE; rw [if_pos HC.out]
    have e3 : dnE c = dn c := by unfold dnE; rw [decide_eq_true HC.out]; rfl
    rw [e1, HC.out] at CP
    rw [e2, e3, HC.out] at CA
    have HD := dn_iff c
    have HX := hide (fun h4 => nxt_of HC.out h4)
    have HP := nx_priv HC.out HI.out.2.1
    clear e1 e2 e3
    obtain ⟨P, hP⟩ : ∃ P, P = rp (ix c) c.mi := ⟨_, rfl⟩
    obtain ⟨D, hD⟩ : ∃ P, P = nx c := ⟨_, rfl⟩
    obtain ⟨bb, hbb⟩ : ∃ P, P = dn c := ⟨_, rfl⟩
    rw [← hP] at CP HP
    rw [← hD, ← hbb] at CA
    rw [← hD] at HX HP
    rw [← hbb] at HD
    clear hP hD hbb
    obtain ⟨ac, er, wa, ke, us⟩ := P
    dsimp only at HP
    unfold pV at CP
    dsimp only at CP
    replace CP := hide CP
    replace CA := hide CA
    replace HD := hide HD
    replace HP := hide HP
    go_wp2_with (refine wpList_load_row rfl 23 _ rfl g2 rfl 23 _ (0, 0) _ X.out Try.underlying23 rfl (by kernel_rfl) ?_)
    refine (CP.out _).mono ?_
    rintro e w2 ⟨rfl, hb⟩
    replace K := hide (btrans K.out hb)
    replace X := hide (X.out.below hb)
    clear hb
    go_upto_region 7 with fail
    have M : Below w2.heap.size w2 (w2.alloc (.cells #[.int .i64 ac, .int .i64 er, .int .i64 wa, .int .i64 ke, .int .i64 us] 28)) := bal (brefl w2) _
    replace K := hide (btrans K.out M)
    replace X := hide (X.out.below M)
    have Q := hide (show PB (w2.alloc (.cells #[.int .i64 ac, .int .i64 er, .int .i64 wa, .int .i64 ke, .int .i64 us] 28)) w2.heap.size ⟨ac, er, wa, ke, us⟩ from Box.new w2 28 _)
    obtain ⟨g4, hg4⟩ : ∃ q, q = w2.heap.size := ⟨_, rfl⟩
    rw [← hg4] at Q
    rw [← hg4]
    clear hg4
    generalize w2.alloc (.cells #[.int .i64 ac, .int .i64 er, .int .i64 wa, .int .i64 ke, .int .i64 us] 28) = v2 at *
    clear M
    go_wp2_with (refine wpList_load_row rfl 23 _ rfl g2 rfl 23 _ (0, 0) _ X.out Try.underlying23 rfl (by kernel_rfl) ?_)
    refine (CA.out _).mono ?_
    rintro e w3 ⟨rfl, hb⟩
    replace K := hide (btrans K.out hb)
    replace X := hide (X.out.below hb)
    replace Q := hide (Q.out.below hb)
    clear hb
    go_upto_region 8 with (first | (refine wpList_store_row rfl 23 _ _ rfl w3.heap.size (fC D) rfl rfl 23 _ (Box.new w3 23 _) (by kernel_rfl) rfl (by kernel_rfl) ?_))
    have M : Below w3.heap.size w3 ((w3.alloc (.cells #[.bool false, .bool false, .int .i64 0, .bool false, .bool false, .bool false, .bool false, .int .i64 0, .bool false, .bool false, .bool false, .bool false, .bool false, .bool false, .bool false, .bool false, .int .i64 0] 23)).setRow w3.heap.size (fC D)) := row_below2 (bal (brefl w3) _) (Nat.le_refl _)
    replace K := hide (btrans K.out M)
    have X' := hide (X.out.below M)
    clear X
    have X := X'
    clear X'
    have Q' := hide (Q.out.below M)
    clear Q
    have Q := Q'
    clear Q'
    have Z := hide (show CB ((w3.alloc (.cells #[.bool false, .bool false, .int .i64 0, .bool false, .bool false, .bool false, .bool false, .int .i64 0, .bool false, .bool false, .bool false, .bool false, .bool false, .bool false, .bool false, .bool false, .int .i64 0] 23)).setRow w3.heap.size (fC D)) w3.heap.size D from box_row (Box.new w3 23 _))
    obtain ⟨v3, hv3⟩ : ∃ q, q = (w3.alloc (.cells #[.bool false, .bool false, .int .i64 0, .bool false, .bool false, .bool false, .bool false, .int .i64 0, .bool false, .bool false, .bool false, .bool false, .bool false, .bool false, .bool false, .bool false, .int .i64 0] 23)).setRow w3.heap.size (fC D) := ⟨_, rfl⟩
    obtain ⟨g5, hg5⟩ : ∃ q, q = w3.heap.size := ⟨_, rfl⟩
    rw [← hv3] at K X Q Z
    rw [← hg5] at Z
    rw [← hv3, ← hg5]
    clear hv3 hg5 M
    obtain ⟨q0, q1, q2, q3, q4⟩ := Q.out.cells
    have xs : v3.cell? ⟨g2, 3, none⟩ = some (.bool sh) := (Box.cell X.out 3).trans (by rw [← HI.out.1]; rfl)
    have yd : v3.cell? ⟨g5, 14, none⟩ = some (.bool D.di) := Box.cell Z.out 14
    have yo : v3.cell? ⟨g5, 10, none⟩ = some (.bool D.ow) := Box.cell Z.out 10
    clear CP CA
    cases sh
    · have b7 : (ac == 7) = false := beq_eq_false_iff_ne.2 (HP.out.2.2.1 HI.out.1)
      have edi : D.di = di := (HP.out.1 HI.out.1).trans (HI.out.2.2 rfl)
      have DI := hide (show false = false → D.di = di from fun _ => edi)
      rw [edi] at yd
      clear edi
      cases bb
      rotate_left 1
      · clear HD HX HP
        go_upto_region 13 with fail
        clear xs yd yo q0 q1 q2 q3 q4
        go_wp2_with fail
        refine (AWK.out _).mono ?_
        rintro e w9 ⟨rfl, hb⟩
        replace K := hide (btrans K.out hb)
        clear hb
        go_wp2
        go_ret
        exact ⟨rfl, K.out⟩
      have h4 : 4 ≤ ix c := by
        rcases Nat.lt_or_ge (ix c) 4 with h | h
        · exact absurd (HD.out.2 (by omega)) (by simp)
        · exact h
      have NX := hide (HX.out h4)
      clear HD HX h4
      have K2 := hide (show Below w.heap.size w (v3.setRow g2 (fC D)) from row_below2 K.out G2.out)
      have X2 := hide (show CB (v3.setRow g2 (fC D)) g2 D from box_row X.out)
      go_upto_region 14 with fail
      clear xs yd yo q0 q1 q2 q3 q4
      go_wp2_with (first | (refine wpList_load_row rfl 23 _ rfl g5 rfl 23 _ (0, 0) _ Z.out Try.underlying23 rfl (by kernel_rfl) ?_) | (refine wpList_store_row rfl 23 _ _ rfl g2 (fC D) rfl rfl 23 _ X.out (by kernel_rfl) rfl (by kernel_rfl) ?_))
      go_roundw
      case rel => exact ⟨k + 1, D, by go_num, K2, X2, hide NX.out.1, hide (by have := NX.out.2.1; have := HR.out; omega), hide ⟨(NX.out.2.2.2.2.2.2.1).trans HI.out.1, (NX.out.2.2.2.2.2.2.2.1).trans HI.out.2.1, (by first | exact DI.out | exact fun _ => DI.out rfl)⟩⟩
      case measure => simp [intOf]; omega
    · have b9 : (ac == 9) = false := beq_eq_false_iff_ne.2 (HP.out.2.2.2 HI.out.1)
      have DI := hide (show true = false → D.di = di from fun h => by cases h)
      rw [HP.out.2.1 HI.out.1] at yo
      cases bb
      rotate_left 1
      · clear HD HX HP
        go_upto_region 13 with fail
        clear xs yd yo q0 q1 q2 q3 q4
        go_wp2_with fail
        refine (AWK.out _).mono ?_
        rintro e w9 ⟨rfl, hb⟩
        replace K := hide (btrans K.out hb)
        clear hb
        go_wp2
        go_ret
        exact ⟨rfl, K.out⟩
      have h4 : 4 ≤ ix c := by
        rcases Nat.lt_or_ge (ix c) 4 with h | h
        · exact absurd (HD.out.2 (by omega)) (by simp)
        · exact h
      have NX := hide (HX.out h4)
      clear HD HX h4
      have K2 := hide (show Below w.heap.size w (v3.setRow g2 (fC D)) from row_below2 K.out G2.out)
      have X2 := hide (show CB (v3.setRow g2 (fC D)) g2 D from box_row X.out)
      go_upto_region 14 with fail
      clear xs yd yo q0 q1 q2 q3 q4
      go_wp2_with (first | (refine wpList_load_row rfl 23 _ rfl g5 rfl 23 _ (0, 0) _ Z.out Try.underlying23 rfl (by kernel_rfl) ?_) | (refine wpList_store_row rfl 23 _ _ rfl g2 (fC D) rfl rfl 23 _ X.out (by kernel_rfl) rfl (by kernel_rfl) ?_))
      go_roundw
      case rel => exact ⟨k + 1, D, by go_num, K2, X2, hide NX.out.1, hide (by have := NX.out.2.1; have := HR.out; omega), hide ⟨(NX.out.2.2.2.2.2.2.1).trans HI.out.1, (NX.out.2.2.2.2.2.2.2.1).trans HI.out.2.1, (by first | exact DI.out | exact fun _ => DI.out rfl)⟩⟩
      case measure => simp [intOf]; omega
end Go.Proofs.Ytkcopcmoaloecaa.Fp
