import Derived.Test.YtflplldamefhoaaR7
namespace Go.Proofs.Ytflplldamefhoaa.Bd
open Go Go.RowKit
set_option linter.unusedVariables false
def RE3 (fr er : Int) (p : Pm) (S : Int → Prop) (w : World) (e : Ending) (w' : World) : Prop := ∃ q v' L', e = .returned (.tuple #[.agg (znC q v'), .int .i64 fr, .int .i64 er]) ∧ OwZ w.heap.size w' v' L' ∧ Below w.heap.size w w' ∧ ZQ er p S q L'
set_option maxRecDepth 100000 in
set_option maxHeartbeats 8000000 in
theorem ralloc_any (p : Pm) (v : Nat → Value) (L : Fl) (o : Int) (w : World) (hz : ZIn w p v L) : Calls Try.prog 24 #[.agg (znC p v), .int .i64 o] w (RE3 (alF p L o) (alE p L o) p (alS p L o) w) := by
  unfold RE3
  obtain ⟨er, her⟩ : ∃ er, er = alE p L o := ⟨_, rfl⟩
  obtain ⟨fr, hfr⟩ : ∃ fr, fr = alF p L o := ⟨_, rfl⟩
  rw [← her, ← hfr]
  have HER := hide her
  have HFR := hide hfr
  obtain ⟨W0, hW0⟩ : ∃ W0, W0 = (w.alloc (.cells (znC p v) 25)).alloc (.cells (znC p0 nv) 25) := ⟨_, rfl⟩
  have K0 := hide (show Below w.heap.size w W0 by rw [hW0]; exact bal (bal (brefl w) _) _)
  have X := hide (show Box W0 w.heap.size 25 (znC p v) by rw [hW0]; exact (Box.new w 25 _).more _)
  have Y := hide (show Box W0 (w.heap.size + 1) 25 (znC p0 nv) by rw [hW0]; exact Box.new2 w _ 25 _)
  have CH := hide (rcheck_any p v L W0 (hz.below K0.out))
  have HZ := hide hz
  obtain ⟨g, hg⟩ : ∃ g, g = w.heap.size := ⟨_, rfl⟩
  rw [← hg] at X Y
  have HG := hide hg
  clear hz her hfr
  by_cases hc : chk p L = 0
  · obtain ⟨hp, V⟩ := chk_zero.1 hc
    have HP := hide hp
    have HV := hide V
    have HC := hide hc
    have RS := hide (fun w1 (hb : Below w.heap.size w w1) => rset_any p v L w1 HP.out HV.out.toLst (HZ.out.rd.below hb))
    unfold ZS at RS
    rw [hc] at CH
    clear hc hp V
    by_cases ho : 0 ≤ o ∧ o ≤ 4
    · obtain ⟨k0, rfl⟩ : ∃ k : Nat, o = k := ⟨o.toNat, by omega⟩
      have hk0 : k0 ≤ 4 := by omega
      have HO := hide ho
      have d1 : decide ((k0 : Int) < 0) = false := decide_eq_false (by omega)
      have d2 : decide ((4 : Int) < (k0 : Int)) = false := decide_eq_false (by omega)
      clear ho
      go_enter Try.func24, Try.ntmps24
      go_upto_region 1 with fail
      rw [znC0, ← hW0, ← hg]
      clear hW0 hg
      go_wp2_with (first | (refine wpList_load_row rfl 25 _ rfl g rfl 25 (znC p v) (0, 0) _ X.out Try.underlying25 rfl (by kernel_rfl) ?_) | (go_at_call 17; refine CH.out.mono ?_; rintro e w1 ⟨rfl, hb⟩; replace X := hide (X.out.below hb); replace Y := hide (Y.out.below hb); replace K0 := hide (K0.out.trans (hb.mono K0.out.size)); clear hb))
      go_loopw [8] (fun a wr => ∃ k : Nat, k0 ≤ k ∧ k ≤ 5 ∧ a = .int .i64 k ∧ Hid (Box wr g 25 (znC p v)) ∧ Hid (Box wr (g + 1) 25 (znC p0 nv)) ∧ Hid (Below w.heap.size w wr) ∧ Hid (∀ j, k0 ≤ j → j < k → L j = [])) (fun a _ => 5 - (intOf a).toNat)
      case atStart => exact ⟨k0, Nat.le_refl _, by omega, rfl, X, Y, K0, hide (fun j h1 h2 => absurd h2 (by omega))⟩
      case round =>
        clear X Y K0
        obtain ⟨k, hk1, hk2, rfl, X, Y, K0, N⟩ := hrel
        by_cases h5 : k < 5
        · have hk5 : (k : Int) < 5 := by omega
          have hle : decide ((k : Int) ≤ 4) = true := decide_eq_true (by omega)
          have s0 := box_list X.out h5
          obtain ⟨A, c, ev, hcap, r⟩ := HZ.out.rd k h5
          rw [ev] at s0
          by_cases hn : L k = []
          · have N2 := hide (show ∀ j, k0 ≤ j → j < k + 1 → L j = [] from fun j h1 h2 => by
              by_cases e : j = k
              · rw [e]; exact hn
              · exact N.out j h1 (by omega))
            rw [hn] at s0
            clear hn ev r hcap N
            go_wp2
            go_roundw
            case rel => exact ⟨k + 1, by omega, by omega, by go_num, X, Y, K0, N2⟩
            case measure => simp [intOf]; omega
          · have E := hide (alK_at (o := k0) h5 hk1 N.out hn)
            have hlen : 0 < (L k).length := List.length_pos_iff.2 hn
            have hle2 := HZ.out.len k h5
            obtain ⟨b, off, eA, hbl, c0⟩ := r.cells K0.out hlen
            subst eA
            rw [Nat.add_zero] at c0
            have hf0 : (L k).getD 0 0 ∈ L k := getD_mem hlen
            have hblk := HV.out.blk k h5 _ hf0
            have hd0 : dn k ((L k).getD 0 0) = (L k).getD 0 0 := dn_self hblk.1
            have hbd := blk_bd HP.out hblk
            obtain ⟨a, haa⟩ : ∃ a : Nat, (L k).getD 0 0 = (a : Int) := ⟨((L k).getD 0 0).toNat, by omega⟩
            have EE := hide (show er = 0 by
              rw [HER.out]
              unfold alE
              rw [if_neg (fun x => x HC.out), if_neg (fun x => x HO.out), Int.toNat_natCast, E.out, if_neg (by omega)])
            have EF := hide (show fr = (a : Int) by
              rw [HFR.out, ← haa]
              unfold alF
              rw [← HER.out, if_pos EE.out, Int.toNat_natCast, E.out])
            rw [haa] at c0 hblk hbd hd0
            have bp := bw_pos k0
            have hbb : (a : Int) + bw k0 ≤ 256 := by have := (dn_in (x := (a : Int)) hk1 h5).2; rw [hd0] at this; have := dn_le k0 (a : Int); have e0 := dn_lt k0 (a : Int); have e3 := dn_dn hk1 h5 (a : Int); have := dn_in (x := (a : Int)) hk1 h5; omega
            have hm0 : (a : Int) % bw k0 = 0 := by
              have := hblk.1
              rcases cases5 h5 with rfl | rfl | rfl | rfl | rfl <;> rcases cases5 (show k0 < 5 by omega) with rfl | rfl | rfl | rfl | rfl <;> simp only [bw] at * <;> omega
            have hw := wr2 (show k0 < 5 by omega)
            have HW := hide hw
            have HM0 := hide hm0
            have HBB := hide hbb
            have hl0 : decide (0 < (L k).length) = true := decide_eq_true hlen
            generalize (L k).length = n at *
            clear hn hf0 hblk hd0 ev r hcap N hbd haa hm0
            go_upto_region 12 with (first | (refine wpList_load_row rfl 25 _ rfl g rfl 25 (znC p v) (0, 0) _ X.out Try.underlying25 rfl (by kernel_rfl) ?_) | (go_at_call 47; refine (RS.out _ K0.out).mono ?_; rintro e w3 ⟨gs, rfl, ri, hgs, hb⟩; have GX := hide (show g + 1 < gs from Nat.lt_of_lt_of_le Y.out.lt hgs); have RR := hide ri; clear ri hgs; replace X := hide (X.out.below hb); replace Y := hide (Y.out.below hb); replace K0 := hide (K0.out.trans (hb.mono K0.out.size)); clear hb))
            replace RR := hide (show RI w3 gs (cutF a a (fun x => cn L 5 x)) from RR.out.congr fun x hx => by unfold cutF; rw [if_neg (by omega)])
            clear c0 s0
            go_wp2
            go_loopw [11] (fun s wr => ∃ y : Nat, a ≤ y ∧ (y : Int) ≤ a + bw k0 ∧ s = .int .i64 y ∧ Hid (RI wr gs (cutF a y (fun x => cn L 5 x))) ∧ Hid (Box wr g 25 (znC p v)) ∧ Hid (Box wr (g + 1) 25 (znC p0 nv)) ∧ Hid (Below w.heap.size w wr)) (fun s _ => 300 - (intOf s).toNat)
            case atStart => exact ⟨a, Nat.le_refl _, by omega, rfl, RR, X, Y, K0⟩
            case round =>
              clear RR X Y K0
              obtain ⟨y, hy1, hy2, rfl, RR, X, Y, K0⟩ := hrel
              have hw := HW.out
              by_cases hly : (y : Int) < a + bw k0
              · have hy256 : y < 256 := by omega
                have hy256' : (y : Int) < 256 := by omega
                have cell := RR.out.cell hy256
                have frz := RR.out.frozen y
                have Q2 := hide (show RI (wr.setCell ⟨gs, y, none⟩ (.int .i64 0)) gs (cutF a (y + 1) (fun x => cn L 5 x)) from RR.out.put y 0 (fun x hx => by
                  unfold cutF
                  by_cases e : x = y
                  · rw [if_pos e, if_pos (by omega)]
                  · rw [if_neg e]
                    by_cases h2 : a ≤ x ∧ x < y
                    · rw [if_pos h2, if_pos (by omega)]
                    · rw [if_neg h2, if_neg (by omega)]))
                have X2 := hide (X.out.far (show g ≠ gs by have := GX.out; omega) (b := gs) (i := y) (.int .i64 0))
                have Y2 := hide (Y.out.far (show g + 1 ≠ gs by have := GX.out; omega) (b := gs) (i := y) (.int .i64 0))
                have K2 := hide (bset K0.out (p := ⟨gs, y, none⟩) (show w.heap.size ≤ gs by have := GX.out; rw [← HG.out]; omega) (.int .i64 0))
                generalize cutF a y (fun x => cn L 5 x) y = q at *
                clear RR X Y K0
                go_wp2
                go_roundw
                case rel => exact ⟨y + 1, by omega, by omega, by go_num, Q2, X2, Y2, K2⟩
                case measure => simp [intOf]; omega
              · have hye : (y : Int) = a + bw k0 := by omega
                have HYE := hide hye
                have hdl2 : decide ((y : Int) < (a : Int) + bw k0) = false := decide_eq_false hly
                have WI := hide (with_any p v gs _ _ HP.out RR.out (fun x hx => by unfold cutF; split; omega; exact cn_100 L x hx))
                unfold ZC at WI
                clear hye
                go_wp2_with (first | (refine wpList_load_row rfl 25 _ rfl g rfl 25 (znC p v) (0, 0) _ X.out Try.underlying25 rfl (by kernel_rfl) ?_) | (go_at_call 50; refine WI.out.mono ?_; rintro e w5 ⟨v1, L1, rfl, o1, C1, hb⟩) | (refine wpList_store_row rfl 25 _ _ rfl (g + 1) (znC p v1) rfl rfl 25 (znC p0 nv) (Y.out.below hb) (by kernel_rfl) rfl (one_zone o1.rd) ?_))
                have KP := kp_row (cs := znC p v1) (Y.out.below hb) (show w.heap.size ≤ g + 1 by rw [← HG.out]; omega)
                refine ret_z3 Try.results24 rfl rfl rfl rfl (box_row (Y.out.below hb)) ⟨p, v1, L1, by rw [EE.out, EF.out], (o1.mono K0.out.size).kp KP (by decide), (K0.out.trans (hb.mono K0.out.size)).trans KP.below, ⟨fun _ => ⟨rfl, ?_⟩, fun h => absurd EE.out h⟩⟩
                refine C1.congr fun x => ?_
                rw [sc_cut, sc_in HP.out HV.out.toLst]
                unfold alS
                rw [← HFR.out, EF.out, Int.toNat_natCast, dn_self HM0.out]
                have hx : dn k0 x = (a : Int) ↔ (a : Int) ≤ x ∧ x < y := by
                  rw [HYE.out]
                  constructor
                  · intro e; have := dn_le k0 x; have := dn_lt k0 x; omega
                  · rintro ⟨h1, h2⟩; exact dn_eq (by omega) HM0.out h1 h2
                rw [← hx]
        · obtain rfl : k = 5 := by omega
          have E := hide (alK_no (o := k0) (fun j h1 h2 => N.out j h1 h2))
          have EE := hide (show er = 16 by
            rw [HER.out]
            unfold alE
            rw [if_neg (fun x => x HC.out), if_neg (fun x => x HO.out), Int.toNat_natCast, E.out, if_pos rfl])
          have EF := hide (show fr = 0 by
            rw [HFR.out]
            unfold alF
            rw [← HER.out, if_neg (by rw [EE.out]; decide)])
          clear N
          go_wp2_with (first | (refine wpList_store_row rfl 25 _ _ rfl (g + 1) (znC p0 nv) rfl rfl 25 (znC p0 nv) Y.out (by kernel_rfl) rfl (one_zone (w := w) (ow_zero 0 w).rd) ?_))
          have KP := kp_row (cs := znC p0 nv) Y.out (show w.heap.size ≤ g + 1 by rw [← HG.out]; omega)
          refine ret_z3 Try.results24 rfl rfl rfl rfl (box_row Y.out) ⟨p0, nv, nf, by rw [EE.out, EF.out], ow_zero _ _, K0.out.trans KP.below, ⟨fun h => absurd (EE.out.symm.trans h) (by decide), fun _ => ⟨rfl, rfl⟩⟩⟩
    · have EE := hide (show er = 2 by
        rw [HER.out]
        unfold alE
        rw [if_neg (fun x => x HC.out), if_pos ho])
      have EF := hide (show fr = 0 by
        rw [HFR.out]
        unfold alF
        rw [← HER.out, if_neg (by rw [EE.out]; decide)])
      by_cases h0 : o < 0
      · have d1 : decide (o < 0) = true := decide_eq_true h0
        clear ho h0
        go_enter Try.func24, Try.ntmps24
        go_upto_region 1 with fail
        rw [znC0, ← hW0, ← hg]
        clear hW0 hg
        go_wp2_with (first | (refine wpList_load_row rfl 25 _ rfl g rfl 25 (znC p v) (0, 0) _ X.out Try.underlying25 rfl (by kernel_rfl) ?_) | (go_at_call 17; refine CH.out.mono ?_; rintro e w1 ⟨rfl, hb⟩; replace X := hide (X.out.below hb); replace Y := hide (Y.out.below hb); replace K0 := hide (K0.out.trans (hb.mono K0.out.size)); clear hb) | (refine wpList_store_row rfl 25 _ _ rfl (g + 1) (znC p0 nv) rfl rfl 25 (znC p0 nv) Y.out (by kernel_rfl) rfl (one_zone (w := w) (ow_zero 0 w).rd) ?_))
        have KP := kp_row (cs := znC p0 nv) Y.out (show w.heap.size ≤ g + 1 by rw [← HG.out]; omega)
        refine ret_z3 Try.results24 rfl rfl rfl rfl (box_row Y.out) ⟨p0, nv, nf, by rw [EE.out, EF.out], ow_zero _ _, K0.out.trans KP.below, ⟨fun h => absurd (EE.out.symm.trans h) (by decide), fun _ => ⟨rfl, rfl⟩⟩⟩
      · have d1 : decide (o < 0) = false := decide_eq_false h0
        have d2 : decide (4 < o) = true := decide_eq_true (by omega)
        clear ho h0
        go_enter Try.func24, Try.ntmps24
        go_upto_region 1 with fail
        rw [znC0, ← hW0, ← hg]
        clear hW0 hg
        go_wp2_with (first | (refine wpList_load_row rfl 25 _ rfl g rfl 25 (znC p v) (0, 0) _ X.out Try.underlying25 rfl (by kernel_rfl) ?_) | (go_at_call 17; refine CH.out.mono ?_; rintro e w1 ⟨rfl, hb⟩; replace X := hide (X.out.below hb); replace Y := hide (Y.out.below hb); replace K0 := hide (K0.out.trans (hb.mono K0.out.size)); clear hb) | (refine wpList_store_row rfl 25 _ _ rfl (g + 1) (znC p0 nv) rfl rfl 25 (znC p0 nv) Y.out (by kernel_rfl) rfl (one_zone (w := w) (ow_zero 0 w).rd) ?_))
        have KP := kp_row (cs := znC p0 nv) Y.out (show w.heap.size ≤ g + 1 by rw [← HG.out]; omega)
        refine ret_z3 Try.results24 rfl rfl rfl rfl (box_row Y.out) ⟨p0, nv, nf, by rw [EE.out, EF.out], ow_zero _ _, K0.out.trans KP.below, ⟨fun h => absurd (EE.out.symm.trans h) (by decide), fun _ => ⟨rfl, rfl⟩⟩⟩
  · have EE := hide (show er = chk p L by
      rw [HER.out]
      unfold alE
      rw [if_pos hc])
    have EF := hide (show fr = 0 by
      rw [HFR.out]
      unfold alF
      rw [← HER.out, EE.out, if_neg hc])
    have hne : (chk p L != 0) = true := by simpa using hc
    have HC := hide hc
    generalize chk p L = ce at *
    clear hc
    go_enter Try.func24, Try.ntmps24
    go_upto_region 1 with fail
    rw [znC0, ← hW0, ← hg]
    clear hW0 hg
    go_wp2_with (first | (refine wpList_load_row rfl 25 _ rfl g rfl 25 (znC p v) (0, 0) _ X.out Try.underlying25 rfl (by kernel_rfl) ?_) | (go_at_call 17; refine CH.out.mono ?_; rintro e w1 ⟨rfl, hb⟩; replace X := hide (X.out.below hb); replace Y := hide (Y.out.below hb); replace K0 := hide (K0.out.trans (hb.mono K0.out.size)); clear hb) | (refine wpList_store_row rfl 25 _ _ rfl (g + 1) (znC p0 nv) rfl rfl 25 (znC p0 nv) Y.out (by kernel_rfl) rfl (one_zone (w := w) (ow_zero 0 w).rd) ?_))
    have KP := kp_row (cs := znC p0 nv) Y.out (show w.heap.size ≤ g + 1 by rw [← HG.out]; omega)
    refine ret_z3 Try.results24 rfl rfl rfl rfl (box_row Y.out) ⟨p0, nv, nf, by rw [EE.out, EF.out], ow_zero _ _, K0.out.trans KP.below, ⟨fun h => absurd (EE.out.symm.trans h) HC.out, fun _ => ⟨rfl, rfl⟩⟩⟩
end Go.Proofs.Ytflplldamefhoaa.Bd
