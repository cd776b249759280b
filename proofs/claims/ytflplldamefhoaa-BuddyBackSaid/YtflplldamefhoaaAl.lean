import Derived.Test.YtflplldamefhoaaNw
namespace Go.Proofs.Ytflplldamefhoaa.Bd
open Go Go.RowKit
set_option linter.unusedVariables false
/-- the least order from o on with a free block, or 5 -/
def alK (L : Fl) (o : Nat) : Nat := if o ≤ 0 ∧ L 0 ≠ [] then 0 else if o ≤ 1 ∧ L 1 ≠ [] then 1 else if o ≤ 2 ∧ L 2 ≠ [] then 2 else if o ≤ 3 ∧ L 3 ≠ [] then 3 else if o ≤ 4 ∧ L 4 ≠ [] then 4 else 5
theorem alK_at {L : Fl} {o k : Nat} (hk : k < 5) (ho : o ≤ k) (h : ∀ j, o ≤ j → j < k → L j = []) (hn : L k ≠ []) : alK L o = k := by
  unfold alK
  rcases cases5 hk with rfl | rfl | rfl | rfl | rfl
  · rw [if_pos ⟨ho, hn⟩]
  · rw [if_neg (fun x => x.2 (h 0 x.1 (by omega))), if_pos ⟨ho, hn⟩]
  · rw [if_neg (fun x => x.2 (h 0 x.1 (by omega))), if_neg (fun x => x.2 (h 1 x.1 (by omega))), if_pos ⟨ho, hn⟩]
  · rw [if_neg (fun x => x.2 (h 0 x.1 (by omega))), if_neg (fun x => x.2 (h 1 x.1 (by omega))), if_neg (fun x => x.2 (h 2 x.1 (by omega))), if_pos ⟨ho, hn⟩]
  · rw [if_neg (fun x => x.2 (h 0 x.1 (by omega))), if_neg (fun x => x.2 (h 1 x.1 (by omega))), if_neg (fun x => x.2 (h 2 x.1 (by omega))), if_neg (fun x => x.2 (h 3 x.1 (by omega))), if_pos ⟨ho, hn⟩]
theorem alK_no {L : Fl} {o : Nat} (h : ∀ j, o ≤ j → j < 5 → L j = []) : alK L o = 5 := by
  unfold alK
  rw [if_neg (fun x => x.2 (h 0 x.1 (by omega))), if_neg (fun x => x.2 (h 1 x.1 (by omega))), if_neg (fun x => x.2 (h 2 x.1 (by omega))), if_neg (fun x => x.2 (h 3 x.1 (by omega))), if_neg (fun x => x.2 (h 4 x.1 (by omega)))]
def alE (p : Pm) (L : Fl) (o : Int) : Int := if chk p L ≠ 0 then chk p L else if ¬ (0 ≤ o ∧ o ≤ 4) then 2 else if alK L o.toNat = 5 then 16 else 0
def alF (p : Pm) (L : Fl) (o : Int) : Int := if alE p L o = 0 then (L (alK L o.toNat)).getD 0 0 else 0
def alS (p : Pm) (L : Fl) (o : Int) (x : Int) : Prop := InS L x ∧ dn o.toNat x ≠ dn o.toNat (alF p L o)
def ZE3 (fr er : Int) (p : Pm) (S : Int → Prop) (w : World) (e : Ending) (w' : World) : Prop := ∃ q v' L', e = .returned (.tuple #[.agg (znC q v'), .int .i64 fr, .int .i64 er]) ∧ OwZ w.heap.size w' v' L' ∧ Below w.heap.size w w' ∧ ZG er p S q L'
set_option maxRecDepth 100000 in
set_option maxHeartbeats 8000000 in
theorem alloc_any (p : Pm) (v : Nat → Value) (L : Fl) (o : Int) (w : World) (hz : ZIn w p v L) : Calls Try.prog 23 #[.agg (znC p v), .int .i64 o] w (ZE3 (alF p L o) (alE p L o) p (alS p L o) w) := by
  unfold ZE3
  obtain ⟨er, her⟩ : ∃ er, er = alE p L o := ⟨_, rfl⟩
  obtain ⟨fr, hfr⟩ : ∃ fr, fr = alF p L o := ⟨_, rfl⟩
  rw [← her, ← hfr]
  have HER := hide her
  have HFR := hide hfr
  obtain ⟨W0, hW0⟩ : ∃ W0, W0 = (w.alloc (.cells (znC p v) 25)).alloc (.cells (znC p0 nv) 25) := ⟨_, rfl⟩
  have K0 := hide (show Below w.heap.size w W0 by rw [hW0]; exact bal (bal (brefl w) _) _)
  have X := hide (show Box W0 w.heap.size 25 (znC p v) by rw [hW0]; exact (Box.new w 25 _).more _)
  have Y := hide (show Box W0 (w.heap.size + 1) 25 (znC p0 nv) by rw [hW0]; exact Box.new2 w _ 25 _)
  have CH := hide (check_any p v L W0 (hz.below K0.out))
  have HZ := hide hz
  clear hz her hfr
  obtain ⟨g, hg⟩ : ∃ g, g = w.heap.size := ⟨_, rfl⟩
  rw [← hg] at X Y
  have HG := hide hg
  by_cases hc : chk p L = 0
  · obtain ⟨hp, V⟩ := chk_zero.1 hc
    have HP := hide hp
    have HV := hide V
    have HC := hide hc
    have OR := hide (fun w1 => ord_any o w1)
    rw [hc] at CH
    clear hc hp V
    by_cases ho : 0 ≤ o ∧ o ≤ 4
    · rw [decide_eq_true ho] at OR
      obtain ⟨k0, rfl⟩ : ∃ k : Nat, o = k := ⟨o.toNat, by omega⟩
      have hk0 : k0 ≤ 4 := by omega
      have HO := hide ho
      clear ho
      go_enter Try.func23, Try.ntmps23
      go_upto_region 1 with fail
      rw [znC0, ← hW0, ← hg]
      clear hW0 hg
      go_wp2_with (first | (refine wpList_load_row rfl 25 _ rfl g rfl 25 (znC p v) (0, 0) _ X.out Try.underlying25 rfl (by kernel_rfl) ?_) | (go_at_call 16; refine CH.out.mono ?_; rintro e w1 ⟨rfl, hb⟩) | (go_at_call 52; refine (OR.out _).mono ?_; rintro e w' ⟨rfl, rfl⟩))
      replace X := hide (X.out.below hb)
      replace Y := hide (Y.out.below hb)
      replace K0 := hide (K0.out.trans (hb.mono K0.out.size))
      clear hb
      go_loopw [8] (fun a wr => ∃ k : Nat, k0 ≤ k ∧ k ≤ 5 ∧ a = .int .i64 k ∧ Hid (Box wr g 25 (znC p v)) ∧ Hid (Box wr (g + 1) 25 (znC p0 nv)) ∧ Hid (Below w.heap.size w wr) ∧ Hid (∀ j, k0 ≤ j → j < k → L j = [])) (fun a _ => 5 - (intOf a).toNat)
      case atStart => exact ⟨k0, Nat.le_refl _, by omega, rfl, X, Y, K0, hide (fun j h1 h2 => absurd h2 (by omega))⟩
      case round =>
        clear X Y K0
        obtain ⟨k, hk1, hk2, rfl, X, Y, K, N⟩ := hrel
        by_cases h5 : k < 5
        · have hk5 : (k : Int) < 5 := by omega
          have hle : decide ((k : Int) ≤ 4) = true := decide_eq_true (by omega)
          have s0 := box_list X.out h5
          obtain ⟨A, c, ev, hcap, r⟩ := HZ.out.rd k h5
          rw [ev] at s0
          by_cases hn : L k = []
          · have N2 := hide (show ∀ j, k0 ≤ j → j < k + 1 → L j = [] from fun j h1 h2 => by
              by_cases e : j = k
              · rw [e]; exact hn
              · exact N.out j h1 (by omega))
            rw [hn] at s0
            clear hn ev r hcap N
            go_wp2
            go_roundw
            case rel => exact ⟨k + 1, by omega, by omega, by go_num, X, Y, K, N2⟩
            case measure => simp [intOf]; omega
          · have E := hide (alK_at (o := k0) h5 hk1 N.out hn)
            have hlen : 0 < (L k).length := List.length_pos_iff.2 hn
            have hle2 := HZ.out.len k h5
            obtain ⟨b, off, eA, hbl, c0⟩ := r.cells K.out hlen
            subst eA
            rw [Nat.add_zero] at c0
            have hf0 : (L k).getD 0 0 ∈ L k := getD_mem hlen
            have hblk := HV.out.blk k h5 _ hf0
            have hd0 : dn k ((L k).getD 0 0) = (L k).getD 0 0 := dn_self hblk.1
            have WO := hide (fun w1 (hb : Below w.heap.size w w1) => without_any p v L ((L k).getD 0 0) k k0 h5 hk1 w1 HP.out (HZ.out.rd.below hb) HV.out (by rw [hd0]; exact hf0))
            unfold ZV1 at WO
            have EE := hide (show er = 0 by
              rw [HER.out]
              unfold alE
              rw [if_neg (fun x => x HC.out), if_neg (fun x => x HO.out), Int.toNat_natCast, E.out, if_neg (by omega)])
            have EF := hide (show fr = (L k).getD 0 0 by
              rw [HFR.out]
              unfold alF
              rw [← HER.out, if_pos EE.out, Int.toNat_natCast, E.out])
            obtain ⟨f, hf⟩ : ∃ f, f = (L k).getD 0 0 := ⟨_, rfl⟩
            rw [← hf] at c0 WO EF
            have hl0 : decide (0 < (L k).length) = true := decide_eq_true hlen
            generalize (L k).length = n at *
            clear hn hf0 hblk hd0 ev r hf N
            go_wp2_with (first | (refine wpList_load_row rfl 25 _ rfl g rfl 25 (znC p v) (0, 0) _ X.out Try.underlying25 rfl (by kernel_rfl) ?_) | (go_at_call 53; refine (WO.out _ K.out).mono ?_; rintro e w1 ⟨v1, L1, rfl, o1, V1, S1, hb⟩) | (refine wpList_store_row rfl 25 _ _ rfl (g + 1) (znC p v1) rfl rfl 25 (znC p0 nv) (Y.out.below hb) (by kernel_rfl) rfl (one_zone o1.rd) ?_))
            have KP := kp_row (cs := znC p v1) (Y.out.below hb) (show w.heap.size ≤ g + 1 by rw [← HG.out]; omega)
            refine ret_z3 Try.results23 rfl rfl rfl rfl (box_row (Y.out.below hb)) ⟨p, v1, L1, by rw [EE.out, EF.out], (o1.mono K.out.size).kp KP (by decide), (K.out.trans (hb.mono K.out.size)).trans KP.below, ⟨fun _ => ⟨rfl, V1, fun x => ?_⟩, fun h => absurd EE.out h⟩⟩
            rw [S1]
            unfold alS
            rw [← HFR.out, EF.out, Int.toNat_natCast]
        · obtain rfl : k = 5 := by omega
          have E := hide (alK_no (o := k0) (fun j h1 h2 => N.out j h1 h2))
          have EE := hide (show er = 16 by
            rw [HER.out]
            unfold alE
            rw [if_neg (fun x => x HC.out), if_neg (fun x => x HO.out), Int.toNat_natCast, E.out, if_pos rfl])
          have EF := hide (show fr = 0 by
            rw [HFR.out]
            unfold alF
            rw [← HER.out, if_neg (by rw [EE.out]; decide)])
          clear N
          go_wp2_with (first | (refine wpList_store_row rfl 25 _ _ rfl (g + 1) (znC p0 nv) rfl rfl 25 (znC p0 nv) Y.out (by kernel_rfl) rfl (one_zone (w := w) (ow_zero 0 w).rd) ?_))
          have KP := kp_row (cs := znC p0 nv) Y.out (show w.heap.size ≤ g + 1 by rw [← HG.out]; omega)
          refine ret_z3 Try.results23 rfl rfl rfl rfl (box_row Y.out) ⟨p0, nv, nf, by rw [EE.out, EF.out], ow_zero _ _, K.out.trans KP.below, ⟨fun h => absurd (EE.out.symm.trans h) (by decide), fun _ => ⟨rfl, rfl⟩⟩⟩
    · rw [decide_eq_false ho] at OR
      have EE := hide (show er = 2 by
        rw [HER.out]
        unfold alE
        rw [if_neg (fun x => x HC.out), if_pos ho])
      have EF := hide (show fr = 0 by
        rw [HFR.out]
        unfold alF
        rw [← HER.out, if_neg (by rw [EE.out]; decide)])
      clear ho
      go_enter Try.func23, Try.ntmps23
      go_upto_region 1 with fail
      rw [znC0, ← hW0, ← hg]
      clear hW0 hg
      go_wp2_with (first | (refine wpList_load_row rfl 25 _ rfl g rfl 25 (znC p v) (0, 0) _ X.out Try.underlying25 rfl (by kernel_rfl) ?_) | (go_at_call 16; refine CH.out.mono ?_; rintro e w1 ⟨rfl, hb⟩) | (go_at_call 52; refine (OR.out _).mono ?_; rintro e w' ⟨rfl, rfl⟩) | (refine wpList_store_row rfl 25 _ _ rfl (g + 1) (znC p0 nv) rfl rfl 25 (znC p0 nv) (Y.out.below hb) (by kernel_rfl) rfl (one_zone (w := w) (ow_zero 0 w).rd) ?_))
      have KP := kp_row (cs := znC p0 nv) (Y.out.below hb) (show w.heap.size ≤ g + 1 by rw [← HG.out]; omega)
      refine ret_z3 Try.results23 rfl rfl rfl rfl (box_row (Y.out.below hb)) ⟨p0, nv, nf, by rw [EE.out, EF.out], ow_zero _ _, (K0.out.trans (hb.mono K0.out.size)).trans KP.below, ⟨fun h => absurd (EE.out.symm.trans h) (by decide), fun _ => ⟨rfl, rfl⟩⟩⟩
  · have EE := hide (show er = chk p L by
      rw [HER.out]
      unfold alE
      rw [if_pos hc])
    have EF := hide (show fr = 0 by
      rw [HFR.out]
      unfold alF
      rw [← HER.out, EE.out, if_neg hc])
    have hne : (chk p L != 0) = true := by simpa using hc
    have HC := hide hc
    generalize chk p L = ce at *
    clear hc
    go_enter Try.func23, Try.ntmps23
    go_upto_region 1 with fail
    rw [znC0, ← hW0, ← hg]
    clear hW0 hg
    go_wp2_with (first | (refine wpList_load_row rfl 25 _ rfl g rfl 25 (znC p v) (0, 0) _ X.out Try.underlying25 rfl (by kernel_rfl) ?_) | (go_at_call 16; refine CH.out.mono ?_; rintro e w1 ⟨rfl, hb⟩) | (refine wpList_store_row rfl 25 _ _ rfl (g + 1) (znC p0 nv) rfl rfl 25 (znC p0 nv) (Y.out.below hb) (by kernel_rfl) rfl (one_zone (w := w) (ow_zero 0 w).rd) ?_))
    have KP := kp_row (cs := znC p0 nv) (Y.out.below hb) (show w.heap.size ≤ g + 1 by rw [← HG.out]; omega)
    refine ret_z3 Try.results23 rfl rfl rfl rfl (box_row (Y.out.below hb)) ⟨p0, nv, nf, by rw [EE.out, EF.out], ow_zero _ _, (K0.out.trans (hb.mono K0.out.size)).trans KP.below, ⟨fun h => absurd (EE.out.symm.trans h) HC.out, fun _ => ⟨rfl, rfl⟩⟩⟩
end Go.Proofs.Ytflplldamefhoaa.Bd
