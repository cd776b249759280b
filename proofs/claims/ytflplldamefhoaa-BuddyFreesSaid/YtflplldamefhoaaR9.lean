import Derived.Test.YtflplldamefhoaaR7
namespace Go.Proofs.Ytflplldamefhoaa.Bd
open Go Go.RowKit
set_option linter.unusedVariables false
set_option maxRecDepth 100000 in
set_option maxHeartbeats 8000000 in
theorem rfree_any (p : Pm) (v : Nat → Value) (L : Fl) (f o : Int) (hf : i64r f) (w : World) (hz : ZIn w p v L) : Calls Try.prog 26 #[.agg (znC p v), .int .i64 f, .int .i64 o] w (RE (frE p L f o) p (fun x => InS L x ∨ dn o.toNat x = f) w) := by
  unfold RE
  obtain ⟨er, her⟩ : ∃ er, er = frE p L f o := ⟨_, rfl⟩
  rw [← her]
  have HER := hide her
  obtain ⟨W0, hW0⟩ : ∃ W0, W0 = (w.alloc (.cells (znC p v) 25)).alloc (.cells (znC p0 nv) 25) := ⟨_, rfl⟩
  have K0 := hide (show Below w.heap.size w W0 by rw [hW0]; exact bal (bal (brefl w) _) _)
  have X := hide (show Box W0 w.heap.size 25 (znC p v) by rw [hW0]; exact (Box.new w 25 _).more _)
  have Y := hide (show Box W0 (w.heap.size + 1) 25 (znC p0 nv) by rw [hW0]; exact Box.new2 w _ 25 _)
  have CH := hide (rcheck_any p v L W0 (hz.below K0.out))
  have HZ := hide hz
  obtain ⟨g, hg⟩ : ∃ g, g = w.heap.size := ⟨_, rfl⟩
  rw [← hg] at X Y
  have HG := hide hg
  have HF := hide hf
  clear hz her hf
  by_cases hc : chk p L = 0
  · obtain ⟨hp, V⟩ := chk_zero.1 hc
    have HP := hide hp
    have HV := hide V
    have HC := hide hc
    have RS := hide (fun w1 (hb : Below w.heap.size w w1) => rset_any p v L w1 HP.out HV.out.toLst (HZ.out.rd.below hb))
    unfold ZS at RS
    rw [hc] at CH
    clear hc hp V
    by_cases ho : 0 ≤ o ∧ o ≤ 4
    · obtain ⟨k, rfl⟩ : ∃ k : Nat, o = k := ⟨o.toNat, by omega⟩
      have hk5 : k < 5 := by omega
      have BL := hide (fun w1 => rblock_in p v f k hk5 HF.out HP.out w1)
      have HO := hide ho
      clear ho
      by_cases hbk : blk p k f
      · rw [decide_eq_true hbk] at BL
        have HBK := hide hbk
        have hbd := blk_bd HP.out hbk
        have bp := bw_pos k
        obtain ⟨a, rfl⟩ : ∃ a : Nat, f = a := ⟨f.toNat, by omega⟩
        have hw := wr2 hk5
        have HW := hide hw
        have H5 := hide hk5
        clear hbk
        go_enter Try.func26, Try.ntmps26
        go_upto_region 1 with fail
        rw [znC0, ← hW0, ← hg]
        clear hW0 hg
        go_upto_region 7 with (first | (refine wpList_load_row rfl 25 _ rfl g rfl 25 (znC p v) (0, 0) _ X.out Try.underlying25 rfl (by kernel_rfl) ?_) | (go_at_call 17; refine CH.out.mono ?_; rintro e w1 ⟨rfl, hb⟩; replace X := hide (X.out.below hb); replace Y := hide (Y.out.below hb); replace K0 := hide (K0.out.trans (hb.mono K0.out.size)); clear hb) | (go_at_call 48; refine (BL.out _).mono ?_; rintro e w2 ⟨rfl, hb⟩; replace X := hide (X.out.below hb); replace Y := hide (Y.out.below hb); replace K0 := hide (K0.out.trans (hb.mono K0.out.size)); clear hb) | (go_at_call 47; refine (RS.out _ K0.out).mono ?_; rintro e w3 ⟨gs, rfl, ri, hgs, hb⟩; have GX := hide (show g + 1 < gs from Nat.lt_of_lt_of_le Y.out.lt hgs); have RR := hide ri; clear ri hgs; replace X := hide (X.out.below hb); replace Y := hide (Y.out.below hb); replace K0 := hide (K0.out.trans (hb.mono K0.out.size)); clear hb))
        replace RR := hide (show RI w3 gs (setF a a (fun x => cn L 5 x)) from RR.out.congr fun x hx => by unfold setF; rw [if_neg (by omega)])
        go_wp2
        go_loopw [10] (fun s wr => ∃ y : Nat, a ≤ y ∧ (y : Int) ≤ a + bw k ∧ s = .int .i64 y ∧ Hid (RI wr gs (setF a y (fun x => cn L 5 x))) ∧ Hid (Box wr g 25 (znC p v)) ∧ Hid (Box wr (g + 1) 25 (znC p0 nv)) ∧ Hid (Below w.heap.size w wr) ∧ Hid (∀ z : Int, a ≤ z → z < y → ¬ InS L z)) (fun s _ => 300 - (intOf s).toNat)
        case atStart => exact ⟨a, Nat.le_refl _, by omega, rfl, RR, X, Y, K0, hide (fun z h1 h2 => by omega)⟩
        case round =>
          clear RR X Y K0
          obtain ⟨y, hy1, hy2, rfl, RR, X, Y, K0, N⟩ := hrel
          have hw := HW.out
          by_cases hly : (y : Int) < a + bw k
          · have hy256 : y < 256 := by omega
            have hy256' : (y : Int) < 256 := by omega
            have cell : wr.cell? ⟨gs, y, none⟩ = some (.int .i64 ((cn L 5 y : Nat) : Int)) := by
              have := RR.out.cell hy256
              unfold setF at this
              rw [if_neg (by omega)] at this
              exact this
            have frz := RR.out.frozen y
            have hle := cn_le L y 5
            by_cases hi : InS L y
            · have hpos := cn_in.2 hi
              have EE := hide (show er = 7 by
                rw [HER.out]
                unfold frE
                rw [if_neg (fun x => x HC.out), if_neg (fun x => x ⟨HO.out, by rw [Int.toNat_natCast]; exact HBK.out⟩), Int.toNat_natCast, if_neg]
                intro h
                exact clr_iff.1 h y (by omega) hly hi)
              generalize cn L 5 y = q at *
              clear N hi
              go_wp2_with (first | (refine wpList_store_row rfl 25 _ _ rfl (g + 1) (znC p0 nv) rfl rfl 25 (znC p0 nv) Y.out (by kernel_rfl) rfl (one_zone (w := w) (ow_zero 0 w).rd) ?_))
              have KP := kp_row (cs := znC p0 nv) Y.out (show w.heap.size ≤ g + 1 by rw [← HG.out]; omega)
              refine ret_z2 Try.results26 rfl rfl rfl (box_row Y.out) ⟨p0, nv, nf, by rw [EE.out], ow_zero _ _, K0.out.trans KP.below, ⟨fun h => absurd (EE.out.symm.trans h) (by decide), fun _ => ⟨rfl, rfl⟩⟩⟩
            · have hz0 : cn L 5 y = 0 := by
                rcases Nat.eq_zero_or_pos (cn L 5 y) with e | e
                · exact e
                · exact absurd (cn_in.1 e) hi
              have N2 := hide (show ∀ z : Int, a ≤ z → z < ((y + 1 : Nat) : Int) → ¬ InS L z from fun z h1 h2 => by
                by_cases e : z = y
                · rw [e]; exact hi
                · exact N.out z h1 (by omega))
              rw [hz0] at cell
              have Q2 := hide (show RI (wr.setCell ⟨gs, y, none⟩ (.int .i64 1)) gs (setF a (y + 1) (fun x => cn L 5 x)) from RR.out.put y 1 (fun x hx => by
                unfold setF
                by_cases e : x = y
                · rw [if_pos e, if_pos (by omega)]
                · rw [if_neg e]
                  by_cases h2 : a ≤ x ∧ x < y
                  · rw [if_pos h2, if_pos (by omega)]
                  · rw [if_neg h2, if_neg (by omega)]))
              have X2 := hide (X.out.far (show g ≠ gs by have := GX.out; omega) (b := gs) (i := y) (.int .i64 1))
              have Y2 := hide (Y.out.far (show g + 1 ≠ gs by have := GX.out; omega) (b := gs) (i := y) (.int .i64 1))
              have K2 := hide (bset K0.out (p := ⟨gs, y, none⟩) (show w.heap.size ≤ gs by have := GX.out; rw [← HG.out]; omega) (.int .i64 1))
              clear RR X Y K0 N hi hz0 hle
              go_wp2
              go_roundw
              case rel => exact ⟨y + 1, by omega, by omega, by go_num, Q2, X2, Y2, K2, N2⟩
              case measure => simp [intOf]; omega
          · have hye : (y : Int) = a + bw k := by omega
            have HYE := hide hye
            have hdl2 : decide ((y : Int) < (a : Int) + bw k) = false := decide_eq_false hly
            have EE := hide (show er = 0 by
              rw [HER.out]
              unfold frE
              rw [if_neg (fun x => x HC.out), if_neg (fun x => x ⟨HO.out, by rw [Int.toNat_natCast]; exact HBK.out⟩), Int.toNat_natCast, if_pos]
              exact clr_iff.2 (fun z h1 h2 => N.out z h1 (by omega)))
            have WI := hide (with_any p v gs _ _ HP.out RR.out (fun x hx => by unfold setF; split; omega; exact cn_100 L x hx))
            unfold ZC at WI
            clear hye N
            go_wp2_with (first | (refine wpList_load_row rfl 25 _ rfl g rfl 25 (znC p v) (0, 0) _ X.out Try.underlying25 rfl (by kernel_rfl) ?_) | (go_at_call 50; refine WI.out.mono ?_; rintro e w5 ⟨v1, L1, rfl, o1, C1, hb⟩) | (refine wpList_store_row rfl 25 _ _ rfl (g + 1) (znC p v1) rfl rfl 25 (znC p0 nv) (Y.out.below hb) (by kernel_rfl) rfl (one_zone o1.rd) ?_))
            have KP := kp_row (cs := znC p v1) (Y.out.below hb) (show w.heap.size ≤ g + 1 by rw [← HG.out]; omega)
            refine ret_z2 Try.results26 rfl rfl rfl (box_row (Y.out.below hb)) ⟨p, v1, L1, by rw [EE.out], (o1.mono K0.out.size).kp KP (by decide), (K0.out.trans (hb.mono K0.out.size)).trans KP.below, ⟨fun _ => ⟨rfl, ?_⟩, fun h => absurd EE.out h⟩⟩
            refine C1.congr fun x => ?_
            rw [sc_set (by have := HYE.out; omega), sc_in HP.out HV.out.toLst, Int.toNat_natCast]
            have hx : dn k x = (a : Int) ↔ (a : Int) ≤ x ∧ x < y := by
              rw [HYE.out]
              constructor
              · intro e; have := dn_le k x; have := dn_lt k x; omega
              · rintro ⟨h1, h2⟩; exact dn_eq H5.out HBK.out.1 h1 h2
            rw [← hx]
      · rw [decide_eq_false hbk] at BL
        have EE := hide (show er = 2 by
          rw [HER.out]
          unfold frE
          rw [if_neg (fun x => x HC.out), if_pos (fun h => hbk (by have := h.2; rwa [Int.toNat_natCast] at this))])
        clear hbk
        go_enter Try.func26, Try.ntmps26
        go_upto_region 1 with fail
        rw [znC0, ← hW0, ← hg]
        clear hW0 hg
        go_wp2_with (first | (refine wpList_load_row rfl 25 _ rfl g rfl 25 (znC p v) (0, 0) _ X.out Try.underlying25 rfl (by kernel_rfl) ?_) | (go_at_call 17; refine CH.out.mono ?_; rintro e w1 ⟨rfl, hb⟩; replace X := hide (X.out.below hb); replace Y := hide (Y.out.below hb); replace K0 := hide (K0.out.trans (hb.mono K0.out.size)); clear hb) | (go_at_call 48; refine (BL.out _).mono ?_; rintro e w2 ⟨rfl, hb⟩; replace X := hide (X.out.below hb); replace Y := hide (Y.out.below hb); replace K0 := hide (K0.out.trans (hb.mono K0.out.size)); clear hb) | (refine wpList_store_row rfl 25 _ _ rfl (g + 1) (znC p0 nv) rfl rfl 25 (znC p0 nv) Y.out (by kernel_rfl) rfl (one_zone (w := w) (ow_zero 0 w).rd) ?_))
        have KP := kp_row (cs := znC p0 nv) Y.out (show w.heap.size ≤ g + 1 by rw [← HG.out]; omega)
        refine ret_z2 Try.results26 rfl rfl rfl (box_row Y.out) ⟨p0, nv, nf, by rw [EE.out], ow_zero _ _, K0.out.trans KP.below, ⟨fun h => absurd (EE.out.symm.trans h) (by decide), fun _ => ⟨rfl, rfl⟩⟩⟩
    · have BL := hide (fun w1 => rblock_out p v f o ho w1)
      have EE := hide (show er = 2 by
        rw [HER.out]
        unfold frE
        rw [if_neg (fun x => x HC.out), if_pos (fun h => ho h.1)])
      clear ho
      go_enter Try.func26, Try.ntmps26
      go_upto_region 1 with fail
      rw [znC0, ← hW0, ← hg]
      clear hW0 hg
      go_wp2_with (first | (refine wpList_load_row rfl 25 _ rfl g rfl 25 (znC p v) (0, 0) _ X.out Try.underlying25 rfl (by kernel_rfl) ?_) | (go_at_call 17; refine CH.out.mono ?_; rintro e w1 ⟨rfl, hb⟩; replace X := hide (X.out.below hb); replace Y := hide (Y.out.below hb); replace K0 := hide (K0.out.trans (hb.mono K0.out.size)); clear hb) | (go_at_call 48; refine (BL.out _).mono ?_; rintro e w2 ⟨rfl, hb⟩; replace X := hide (X.out.below hb); replace Y := hide (Y.out.below hb); replace K0 := hide (K0.out.trans (hb.mono K0.out.size)); clear hb) | (refine wpList_store_row rfl 25 _ _ rfl (g + 1) (znC p0 nv) rfl rfl 25 (znC p0 nv) Y.out (by kernel_rfl) rfl (one_zone (w := w) (ow_zero 0 w).rd) ?_))
      have KP := kp_row (cs := znC p0 nv) Y.out (show w.heap.size ≤ g + 1 by rw [← HG.out]; omega)
      refine ret_z2 Try.results26 rfl rfl rfl (box_row Y.out) ⟨p0, nv, nf, by rw [EE.out], ow_zero _ _, K0.out.trans KP.below, ⟨fun h => absurd (EE.out.symm.trans h) (by decide), fun _ => ⟨rfl, rfl⟩⟩⟩
  · have EE := hide (show er = chk p L by
      rw [HER.out]
      unfold frE
      rw [if_pos hc])
    have hne : (chk p L != 0) = true := by simpa using hc
    have HC := hide hc
    generalize chk p L = ce at *
    clear hc
    go_enter Try.func26, Try.ntmps26
    go_upto_region 1 with fail
    rw [znC0, ← hW0, ← hg]
    clear hW0 hg
    go_wp2_with (first | (refine wpList_load_row rfl 25 _ rfl g rfl 25 (znC p v) (0, 0) _ X.out Try.underlying25 rfl (by kernel_rfl) ?_) | (go_at_call 17; refine CH.out.mono ?_; rintro e w1 ⟨rfl, hb⟩; replace X := hide (X.out.below hb); replace Y := hide (Y.out.below hb); replace K0 := hide (K0.out.trans (hb.mono K0.out.size)); clear hb) | (refine wpList_store_row rfl 25 _ _ rfl (g + 1) (znC p0 nv) rfl rfl 25 (znC p0 nv) Y.out (by kernel_rfl) rfl (one_zone (w := w) (ow_zero 0 w).rd) ?_))
    have KP := kp_row (cs := znC p0 nv) Y.out (show w.heap.size ≤ g + 1 by rw [← HG.out]; omega)
    refine ret_z2 Try.results26 rfl rfl rfl (box_row Y.out) ⟨p0, nv, nf, by rw [EE.out], ow_zero _ _, K0.out.trans KP.below, ⟨fun h => absurd (EE.out.symm.trans h) HC.out, fun _ => ⟨rfl, rfl⟩⟩⟩
end Go.Proofs.Ytflplldamefhoaa.Bd
