import Derived.Test.YtflplldamefhoaaFr
namespace Go.Proofs.Ytflplldamefhoaa.Bd
open Go Go.RowKit
set_option linter.unusedVariables false
def clr (L : Fl) (k : Nat) (f : Int) : Prop := ∀ t : Nat, t < (bw k).toNat → oof L (f + t) < 0
instance (L : Fl) (k : Nat) (f : Int) : Decidable (clr L k f) := by unfold clr; infer_instance
theorem clr_iff {L : Fl} {k : Nat} {f : Int} : clr L k f ↔ ∀ x, f ≤ x → x < f + bw k → ¬ InS L x := by
  have bp := bw_pos k
  constructor
  · intro h x h1 h2 hI
    have := h (x - f).toNat (by omega)
    rw [show f + ((x - f).toNat : Int) = x by omega] at this
    have := oof_in.2 hI
    omega
  · intro h t ht
    have := h (f + t) (by omega) (by omega)
    rcases Int.lt_or_le (oof L (f + t)) 0 with h1 | h1
    · exact h1
    · exact absurd (oof_in.1 h1) this
def frE (p : Pm) (L : Fl) (f o : Int) : Int := if chk p L ≠ 0 then chk p L else if ¬ ((0 ≤ o ∧ o ≤ 4) ∧ blk p o.toNat f) then 2 else if clr L o.toNat f then 0 else 7
set_option maxRecDepth 100000 in
set_option maxHeartbeats 8000000 in
theorem free_any (p : Pm) (v : Nat → Value) (L : Fl) (f o : Int) (hf : i64r f) (w : World) (hz : ZIn w p v L) : Calls Try.prog 25 #[.agg (znC p v), .int .i64 f, .int .i64 o] w (ZE (frE p L f o) p (fun x => InS L x ∨ dn o.toNat x = f) w) := by
  unfold ZE
  obtain ⟨er, her⟩ : ∃ er, er = frE p L f o := ⟨_, rfl⟩
  rw [← her]
  have HER := hide her
  obtain ⟨W0, hW0⟩ : ∃ W0, W0 = (w.alloc (.cells (znC p v) 25)).alloc (.cells (znC p0 nv) 25) := ⟨_, rfl⟩
  have K0 := hide (show Below w.heap.size w W0 by rw [hW0]; exact bal (bal (brefl w) _) _)
  have X := hide (show Box W0 w.heap.size 25 (znC p v) by rw [hW0]; exact (Box.new w 25 _).more _)
  have Y := hide (show Box W0 (w.heap.size + 1) 25 (znC p0 nv) by rw [hW0]; exact Box.new2 w _ 25 _)
  have CH := hide (check_any p v L W0 (hz.below K0.out))
  have HZ := hide hz
  have HF := hide hf
  clear hz her hf
  obtain ⟨g, hg⟩ : ∃ g, g = w.heap.size := ⟨_, rfl⟩
  rw [← hg] at X Y
  have HG := hide hg
  by_cases hc : chk p L = 0
  · obtain ⟨hp, V⟩ := chk_zero.1 hc
    have HP := hide hp
    have HV := hide V
    have HC := hide hc
    have OR := hide (fun w1 => ord_any o w1)
    rw [hc] at CH
    clear hc hp V
    by_cases ho : 0 ≤ o ∧ o ≤ 4
    · rw [decide_eq_true ho] at OR
      obtain ⟨k, rfl⟩ : ∃ k : Nat, o = k := ⟨o.toNat, by omega⟩
      have hk5 : k < 5 := by omega
      have BL := hide (fun w1 => block_any p v f k hk5 HF.out HP.out w1)
      have HO := hide ho
      clear ho
      by_cases hbk : blk p k f
      · rw [decide_eq_true hbk] at BL
        have HBK := hide hbk
        have hbd := blk_bd HP.out hbk
        have bp := bw_pos k
        have bl := bw_le k
        obtain ⟨a, rfl⟩ : ∃ a : Nat, f = a := ⟨f.toNat, by omega⟩
        have OO := hide (fun (x : Nat) (hx : x < 256) w1 (hb : Below w.heap.size w w1) => oof_any p v L (x : Int) (by unfold i64r; omega) w1 (HZ.out.rd.below hb) (fun k hk => HV.out.srt k hk) HZ.out.len)
        have hw := wr2 hk5
        have HW := hide hw
        have H5 := hide hk5
        clear hbk
        go_enter Try.func25, Try.ntmps25
        go_upto_region 1 with fail
        rw [znC0, ← hW0, ← hg]
        clear hW0 hg
        go_upto_region 6 with (first | (refine wpList_load_row rfl 25 _ rfl g rfl 25 (znC p v) (0, 0) _ X.out Try.underlying25 rfl (by kernel_rfl) ?_) | (go_at_call 16; refine CH.out.mono ?_; rintro e w1 ⟨rfl, hb⟩; replace X := hide (X.out.below hb); replace Y := hide (Y.out.below hb); replace K0 := hide (K0.out.trans (hb.mono K0.out.size)); clear hb; obtain ⟨y0, y1, y2, y3, y4, y5, y6, y7, y8, y9⟩ := box_all X.out) | (go_at_call 52; refine (OR.out _).mono ?_; rintro e w' ⟨rfl, rfl⟩) | (go_at_call 51; refine (BL.out _).mono ?_; rintro e w2 ⟨rfl, hb⟩; replace X := hide (X.out.below hb); replace Y := hide (Y.out.below hb); replace K0 := hide (K0.out.trans (hb.mono K0.out.size)); clear hb))
        clear y0 y1 y2 y3 y4 y5 y6 y7 y8 y9
        go_wp2
        go_loopw [9] (fun s wr => ∃ x : Nat, a ≤ x ∧ (x : Int) ≤ a + bw k ∧ s = .int .i64 x ∧ Hid (Box wr g 25 (znC p v)) ∧ Hid (Box wr (g + 1) 25 (znC p0 nv)) ∧ Hid (Below w.heap.size w wr) ∧ Hid (∀ y : Int, a ≤ y → y < x → ¬ InS L y)) (fun s _ => 300 - (intOf s).toNat)
        case atStart => exact ⟨a, Nat.le_refl _, by omega, rfl, X, Y, K0, hide (fun y h1 h2 => by omega)⟩
        case round =>
          clear X Y K0
          obtain ⟨x, hx1, hx2, rfl, X, Y, K0, N⟩ := hrel
          by_cases hlt : (x : Int) < a + bw k
          · have O1 := hide (OO.out x (by omega) _ K0.out)
            rcases oof_cases L x with ⟨j, hj, ek, hcov⟩ | ⟨ek, hno⟩
            · have EE := hide (show er = 7 by
                rw [HER.out]
                unfold frE
                rw [if_neg (fun x => x HC.out), if_neg (fun x => x ⟨HO.out, by rw [Int.toNat_natCast]; exact HBK.out⟩), Int.toNat_natCast, if_neg]
                intro h
                exact clr_iff.1 h x (by omega) hlt ⟨j, hj, hcov⟩)
              rw [ek] at O1
              clear ek hcov N
              go_wp2_with (first | (refine wpList_load_row rfl 25 _ rfl g rfl 25 (znC p v) (0, 0) _ X.out Try.underlying25 rfl (by kernel_rfl) ?_) | (go_at_call 54; refine O1.out.mono ?_; rintro e w2 ⟨rfl, hb⟩; replace X := hide (X.out.below hb); replace Y := hide (Y.out.below hb); replace K0 := hide (K0.out.trans (hb.mono K0.out.size)); clear hb) | (refine wpList_store_row rfl 25 _ _ rfl (g + 1) (znC p0 nv) rfl rfl 25 (znC p0 nv) Y.out (by kernel_rfl) rfl (one_zone (w := w) (ow_zero 0 w).rd) ?_))
              have KP := kp_row (cs := znC p0 nv) Y.out (show w.heap.size ≤ g + 1 by rw [← HG.out]; omega)
              refine ret_z2 Try.results25 rfl rfl rfl (box_row Y.out) ⟨p0, nv, nf, by rw [EE.out], ow_zero _ _, K0.out.trans KP.below, ⟨fun h => absurd (EE.out.symm.trans h) (by decide), fun _ => ⟨rfl, rfl⟩⟩⟩
            · have N2 := hide (show ∀ y : Int, a ≤ y → y < ((x + 1 : Nat) : Int) → ¬ InS L y from fun y h1 h2 => by
                by_cases e : y = x
                · rw [e]; exact hno
                · exact N.out y h1 (by omega))
              rw [ek] at O1
              clear ek hno N
              go_wp2_with (first | (refine wpList_load_row rfl 25 _ rfl g rfl 25 (znC p v) (0, 0) _ X.out Try.underlying25 rfl (by kernel_rfl) ?_) | (go_at_call 54; refine O1.out.mono ?_; rintro e w2 ⟨rfl, hb⟩; replace X := hide (X.out.below hb); replace Y := hide (Y.out.below hb); replace K0 := hide (K0.out.trans (hb.mono K0.out.size)); clear hb))
              go_roundw
              case rel => exact ⟨x + 1, by omega, by omega, by go_num, X, Y, K0, N2⟩
              case measure => simp [intOf]; omega
          · have hxe : (x : Int) = a + bw k := by omega
            have EE := hide (show er = 0 by
              rw [HER.out]
              unfold frE
              rw [if_neg (fun x => x HC.out), if_neg (fun x => x ⟨HO.out, by rw [Int.toNat_natCast]; exact HBK.out⟩), Int.toNat_natCast, if_pos]
              refine clr_iff.2 (fun y h1 h2 => N.out y h1 (by omega)))
            have hdl : decide ((x : Int) < a + bw k) = false := decide_eq_false hlt
            have CL := hide (clone_any p v L wr (HZ.out.rd.below K0.out) HZ.out.len)
            unfold ZR1 at CL
            have hds := hide (show ∀ y, dn k y = a → ¬ InS L y from fun y hy => N.out y (by have := dn_le k y; omega) (by have := dn_lt k y; omega))
            clear hxe N
            go_upto_region 12 with (first | (refine wpList_load_row rfl 25 _ rfl g rfl 25 (znC p v) (0, 0) _ X.out Try.underlying25 rfl (by kernel_rfl) ?_) | (go_at_call 55; refine CL.out.mono ?_; rintro e w1 ⟨v1, rfl, o1, b1⟩) | (refine wpList_store_row rfl 25 _ _ rfl w1.heap.size (znC p v1) rfl rfl 25 (znC p0 nv) (Box.new w1 25 _) (by kernel_rfl) rfl (one_zone o1.rd) ?_))
            have e2 : (w1.alloc (.cells #[.int .i64 0, .int .i64 0, .int .i64 0, .int .i64 0, .int .i64 0, .slice none 0 0, .slice none 0 0, .slice none 0 0, .slice none 0 0, .slice none 0 0] 25)).setRow w1.heap.size (znC p v1) = w1.alloc (.cells (znC p v1) 25) := setRow_new w1 _ _ 25
            rw [e2]
            obtain ⟨g2, hg2⟩ : ∃ g2, g2 = w1.heap.size := ⟨_, rfl⟩
            have M := bal (brefl w1) (.cells (znC p v1) 25)
            obtain ⟨B0, hB0⟩ : ∃ B0, B0 = wr.heap.size := ⟨_, rfl⟩
            rw [← hB0] at o1
            have Z := (show Box (w1.alloc (.cells (znC p v1) 25)) g2 25 (znC p v1) by rw [hg2]; exact Box.new w1 25 _)
            have O := (o1.below M)
            have Y1 := hide ((Y.out.below b1).below M)
            have K1 := hide ((K0.out.trans (b1.mono K0.out.size)).trans (M.mono (Nat.le_trans K0.out.size b1.size)))
            have G2 := hide (show B0 ≤ g2 by rw [hg2, hB0]; exact b1.size)
            have GB := hide (show g + 1 < B0 ∧ w.heap.size ≤ B0 by rw [hB0]; exact ⟨Y.out.lt, K0.out.size⟩)
            have JN := hide (join_any B0 g2 p v1 L a k H5.out _ HP.out Z O G2.out HV.out HBK.out hds.out)
            rw [← hg2]
            clear e2 M o1 b1 X Y CL K0 Z O hB0
            generalize w1.alloc (.cells (znC p v1) 25) = w2 at *
            clear hg2
            go_upto_region 13 with (first | (go_at_call 49; refine JN.out.mono ?_; rintro e w3 ⟨rfl, ⟨L3, v3, Z3, O3, V3, S3⟩, hb⟩))
            have Y3 := box_lt Y1.out GB.out.1 hb
            have K3 := K1.out.trans (hb.mono GB.out.2)
            have one := one_zone (p := p) O3.rd
            go_wp2_with (first | (refine wpList_load_row rfl 25 _ rfl g2 rfl 25 (znC p v3) (0, 0) _ Z3 Try.underlying25 rfl (by kernel_rfl) ?_) | (refine wpList_store_row rfl 25 _ _ rfl (g + 1) (znC p v3) rfl rfl 25 (znC p0 nv) Y3 (by kernel_rfl) rfl one ?_))
            have KP := kp_row (cs := znC p v3) Y3 (show w.heap.size ≤ g + 1 by rw [← HG.out]; omega)
            refine ret_z2 Try.results25 rfl rfl rfl (box_row Y3) ⟨p, v3, L3, by rw [EE.out], (O3.mono GB.out.2).kp KP (by decide), K3.trans KP.below, ⟨fun _ => ⟨rfl, V3, fun x => by rw [S3, Int.toNat_natCast]⟩, fun h => absurd EE.out h⟩⟩
      · rw [decide_eq_false hbk] at BL
        have EE := hide (show er = 2 by
          rw [HER.out]
          unfold frE
          rw [if_neg (fun x => x HC.out), if_pos (fun h => hbk (by have := h.2; rwa [Int.toNat_natCast] at this))])
        clear hbk
        go_enter Try.func25, Try.ntmps25
        go_upto_region 1 with fail
        rw [znC0, ← hW0, ← hg]
        clear hW0 hg
        go_wp2_with (first | (refine wpList_load_row rfl 25 _ rfl g rfl 25 (znC p v) (0, 0) _ X.out Try.underlying25 rfl (by kernel_rfl) ?_) | (go_at_call 16; refine CH.out.mono ?_; rintro e w1 ⟨rfl, hb⟩; replace X := hide (X.out.below hb); replace Y := hide (Y.out.below hb); replace K0 := hide (K0.out.trans (hb.mono K0.out.size)); clear hb; obtain ⟨y0, y1, y2, y3, y4, y5, y6, y7, y8, y9⟩ := box_all X.out) | (go_at_call 52; refine (OR.out _).mono ?_; rintro e w' ⟨rfl, rfl⟩) | (go_at_call 51; refine (BL.out _).mono ?_; rintro e w2 ⟨rfl, hb⟩; replace X := hide (X.out.below hb); replace Y := hide (Y.out.below hb); replace K0 := hide (K0.out.trans (hb.mono K0.out.size)); clear hb) | (refine wpList_store_row rfl 25 _ _ rfl (g + 1) (znC p0 nv) rfl rfl 25 (znC p0 nv) Y.out (by kernel_rfl) rfl (one_zone (w := w) (ow_zero 0 w).rd) ?_))
        have KP := kp_row (cs := znC p0 nv) Y.out (show w.heap.size ≤ g + 1 by rw [← HG.out]; omega)
        refine ret_z2 Try.results25 rfl rfl rfl (box_row Y.out) ⟨p0, nv, nf, by rw [EE.out], ow_zero _ _, K0.out.trans KP.below, ⟨fun h => absurd (EE.out.symm.trans h) (by decide), fun _ => ⟨rfl, rfl⟩⟩⟩
    · rw [decide_eq_false ho] at OR
      have EE := hide (show er = 2 by
        rw [HER.out]
        unfold frE
        rw [if_neg (fun x => x HC.out), if_pos (fun h => ho h.1)])
      clear ho
      go_enter Try.func25, Try.ntmps25
      go_upto_region 1 with fail
      rw [znC0, ← hW0, ← hg]
      clear hW0 hg
      go_wp2_with (first | (refine wpList_load_row rfl 25 _ rfl g rfl 25 (znC p v) (0, 0) _ X.out Try.underlying25 rfl (by kernel_rfl) ?_) | (go_at_call 16; refine CH.out.mono ?_; rintro e w1 ⟨rfl, hb⟩; replace X := hide (X.out.below hb); replace Y := hide (Y.out.below hb); replace K0 := hide (K0.out.trans (hb.mono K0.out.size)); clear hb; obtain ⟨y0, y1, y2, y3, y4, y5, y6, y7, y8, y9⟩ := box_all X.out) | (go_at_call 52; refine (OR.out _).mono ?_; rintro e w' ⟨rfl, rfl⟩) | (refine wpList_store_row rfl 25 _ _ rfl (g + 1) (znC p0 nv) rfl rfl 25 (znC p0 nv) Y.out (by kernel_rfl) rfl (one_zone (w := w) (ow_zero 0 w).rd) ?_))
      have KP := kp_row (cs := znC p0 nv) Y.out (show w.heap.size ≤ g + 1 by rw [← HG.out]; omega)
      refine ret_z2 Try.results25 rfl rfl rfl (box_row Y.out) ⟨p0, nv, nf, by rw [EE.out], ow_zero _ _, K0.out.trans KP.below, ⟨fun h => absurd (EE.out.symm.trans h) (by decide), fun _ => ⟨rfl, rfl⟩⟩⟩
  · have EE := hide (show er = chk p L by
      rw [HER.out]
      unfold frE
      rw [if_pos hc])
    have hne : (chk p L != 0) = true := by simpa using hc
    have HC := hide hc
    generalize chk p L = ce at *
    clear hc
    go_enter Try.func25, Try.ntmps25
    go_upto_region 1 with fail
    rw [znC0, ← hW0, ← hg]
    clear hW0 hg
    go_wp2_with (first | (refine wpList_load_row rfl 25 _ rfl g rfl 25 (znC p v) (0, 0) _ X.out Try.underlying25 rfl (by kernel_rfl) ?_) | (go_at_call 16; refine CH.out.mono ?_; rintro e w1 ⟨rfl, hb⟩; replace X := hide (X.out.below hb); replace Y := hide (Y.out.below hb); replace K0 := hide (K0.out.trans (hb.mono K0.out.size)); clear hb; obtain ⟨y0, y1, y2, y3, y4, y5, y6, y7, y8, y9⟩ := box_all X.out) | (refine wpList_store_row rfl 25 _ _ rfl (g + 1) (znC p0 nv) rfl rfl 25 (znC p0 nv) Y.out (by kernel_rfl) rfl (one_zone (w := w) (ow_zero 0 w).rd) ?_))
    have KP := kp_row (cs := znC p0 nv) Y.out (show w.heap.size ≤ g + 1 by rw [← HG.out]; omega)
    refine ret_z2 Try.results25 rfl rfl rfl (box_row Y.out) ⟨p0, nv, nf, by rw [EE.out], ow_zero _ _, K0.out.trans KP.below, ⟨fun h => absurd (EE.out.symm.trans h) HC.out, fun _ => ⟨rfl, rfl⟩⟩⟩
end Go.Proofs.Ytflplldamefhoaa.Bd
