import Derived.Test.YtflplldamefhoaaAl
namespace Go.Proofs.Ytflplldamefhoaa.Bd
open Go Go.RowKit
set_option linter.unusedVariables false
theorem oof_cases (L : Fl) (f : Int) : (∃ k : Nat, k < 5 ∧ oof L f = k ∧ cov L k f) ∨ (oof L f = -1 ∧ ¬ InS L f) := by
  unfold oof
  by_cases h0 : cov L 0 f
  · rw [if_pos h0]; exact .inl ⟨0, by omega, rfl, h0⟩
  rw [if_neg h0]
  by_cases h1 : cov L 1 f
  · rw [if_pos h1]; exact .inl ⟨1, by omega, rfl, h1⟩
  rw [if_neg h1]
  by_cases h2 : cov L 2 f
  · rw [if_pos h2]; exact .inl ⟨2, by omega, rfl, h2⟩
  rw [if_neg h2]
  by_cases h3 : cov L 3 f
  · rw [if_pos h3]; exact .inl ⟨3, by omega, rfl, h3⟩
  rw [if_neg h3]
  by_cases h4 : cov L 4 f
  · rw [if_pos h4]; exact .inl ⟨4, by omega, rfl, h4⟩
  rw [if_neg h4]
  refine .inr ⟨rfl, ?_⟩
  rintro ⟨k, hk, hc⟩
  rcases cases5 hk with rfl | rfl | rfl | rfl | rfl
  · exact h0 hc
  · exact h1 hc
  · exact h2 hc
  · exact h3 hc
  · exact h4 hc
theorem oof_in {L : Fl} {f : Int} : 0 ≤ oof L f ↔ InS L f := by
  rcases oof_cases L f with ⟨k, hk, e, hc⟩ | ⟨e, hn⟩
  · exact ⟨fun _ => ⟨k, hk, hc⟩, fun _ => by omega⟩
  · exact ⟨fun h => by omega, fun h => absurd h hn⟩
def isF (p : Pm) (L : Fl) (f : Int) : Bool := decide (chk p L = 0 ∧ 0 ≤ oof L f)
set_option maxRecDepth 100000 in
set_option maxHeartbeats 8000000 in
theorem isfree_any (p : Pm) (v : Nat → Value) (L : Fl) (f : Int) (hf : i64r f) (w : World) (hz : ZIn w p v L) : Calls Try.prog 29 #[.agg (znC p v), .int .i64 f] w fun e w' => e = .returned (.bool (isF p L f)) ∧ Below w.heap.size w w' := by
  have X := hide (Box.new w 25 (znC p v))
  have K0 := hide (bal (brefl w) (.cells (znC p v) 25))
  obtain ⟨res, hres⟩ : ∃ r, r = isF p L f := ⟨_, rfl⟩
  rw [← hres]
  have HRes := hide hres
  obtain ⟨g, hg⟩ : ∃ g, g = w.heap.size := ⟨_, rfl⟩
  obtain ⟨W0, hW0⟩ : ∃ W0, W0 = (w.alloc (.cells (znC p v) 25)) := ⟨_, rfl⟩
  rw [← hg, ← hW0] at X
  rw [← hW0] at K0
  have CH := hide (check_any p v L W0 (hz.below K0.out))
  have HZ := hide hz
  have HF := hide hf
  clear hz hres hf
  by_cases hc : chk p L = 0
  · obtain ⟨hp, V⟩ := chk_zero.1 hc
    have OO := hide (fun w1 (hb : Below W0.heap.size W0 w1) => oof_any p v L f HF.out w1 ((HZ.out.rd.below K0.out).below hb) (fun k hk => V.srt k hk) HZ.out.len)
    have E := hide (show res = decide (0 ≤ oof L f) by
      rw [HRes.out]
      unfold isF
      exact decide_eq_decide.2 ⟨fun h => h.2, fun h => ⟨hc, h⟩⟩)
    rw [hc] at CH
    generalize oof L f = o at *
    clear hc hp V
    go_enter Try.func29, Try.ntmps29
    go_upto_region 1 with fail
    rw [← hg, ← hW0]
    clear hg hW0
    go_wp2_with (first | (refine wpList_load_row rfl 25 _ rfl g rfl 25 (znC p v) (0, 0) _ X.out Try.underlying25 rfl (by kernel_rfl) ?_) | (go_at_call 16; refine CH.out.mono ?_; rintro e w1 ⟨rfl, hb⟩; replace X := hide (X.out.below hb); obtain ⟨y0, y1, y2, y3, y4, y5, y6, y7, y8, y9⟩ := box_all X.out) | (go_at_call 54; refine (OO.out _ hb).mono ?_; rintro e w2 ⟨rfl, hb2⟩))
    go_ret
    exact ⟨ret_bool E.out.symm, (K0.out.trans (hb.mono K0.out.size)).trans (hb2.mono (Nat.le_trans K0.out.size hb.size))⟩
  · have E := hide (show res = false by
      rw [HRes.out]
      unfold isF
      exact decide_eq_false (fun h => hc h.1))
    have hne : (chk p L == 0) = false := by simpa using hc
    generalize chk p L = ce at *
    clear hc
    go_enter Try.func29, Try.ntmps29
    go_upto_region 1 with fail
    rw [← hg, ← hW0]
    clear hg hW0
    go_wp2_with (first | (refine wpList_load_row rfl 25 _ rfl g rfl 25 (znC p v) (0, 0) _ X.out Try.underlying25 rfl (by kernel_rfl) ?_) | (go_at_call 16; refine CH.out.mono ?_; rintro e w1 ⟨rfl, hb⟩))
    go_ret
    exact ⟨ret_bool E.out.symm, K0.out.trans (hb.mono K0.out.size)⟩
-- TAKE
def tkE (p : Pm) (L : Fl) (f : Int) : Int := if chk p L ≠ 0 then chk p L else if ¬ blk p 0 f then 2 else if oof L f < 0 then 6 else 0
set_option maxRecDepth 100000 in
set_option maxHeartbeats 8000000 in
theorem take_any (p : Pm) (v : Nat → Value) (L : Fl) (f : Int) (hf : i64r f) (w : World) (hz : ZIn w p v L) : Calls Try.prog 27 #[.agg (znC p v), .int .i64 f] w (ZE (tkE p L f) p (fun x => InS L x ∧ x ≠ f) w) := by
  unfold ZE
  obtain ⟨er, her⟩ : ∃ er, er = tkE p L f := ⟨_, rfl⟩
  rw [← her]
  have HER := hide her
  obtain ⟨W0, hW0⟩ : ∃ W0, W0 = (w.alloc (.cells (znC p v) 25)).alloc (.cells (znC p0 nv) 25) := ⟨_, rfl⟩
  have K0 := hide (show Below w.heap.size w W0 by rw [hW0]; exact bal (bal (brefl w) _) _)
  have X := hide (show Box W0 w.heap.size 25 (znC p v) by rw [hW0]; exact (Box.new w 25 _).more _)
  have Y := hide (show Box W0 (w.heap.size + 1) 25 (znC p0 nv) by rw [hW0]; exact Box.new2 w _ 25 _)
  have CH := hide (check_any p v L W0 (hz.below K0.out))
  have HZ := hide hz
  have HF := hide hf
  clear hz her hf
  obtain ⟨g, hg⟩ : ∃ g, g = w.heap.size := ⟨_, rfl⟩
  rw [← hg] at X Y
  have HG := hide hg
  by_cases hc : chk p L = 0
  · obtain ⟨hp, V⟩ := chk_zero.1 hc
    have HP := hide hp
    have HV := hide V
    have HC := hide hc
    have BL := hide (fun w1 => block_any p v f 0 (by omega) HF.out hp w1)
    have OO := hide (fun w1 (hb : Below w.heap.size w w1) => oof_any p v L f HF.out w1 (HZ.out.rd.below hb) (fun k hk => V.srt k hk) HZ.out.len)
    rw [hc] at CH
    clear hc hp V
    by_cases hbk : blk p 0 f
    · rw [decide_eq_true hbk] at BL
      rcases oof_cases L f with ⟨k, hk, ek, hcov⟩ | ⟨ek, hno⟩
      · have WO := hide (fun w1 (hb : Below w.heap.size w w1) => without_any p v L f k 0 hk (by omega) w1 HP.out (HZ.out.rd.below hb) HV.out hcov)
        unfold ZV1 at WO
        have EE := hide (show er = 0 by
          rw [HER.out]
          unfold tkE
          rw [if_neg (fun x => x HC.out), if_neg (fun x => x hbk), if_neg (by omega)])
        rw [ek] at OO
        clear ek hcov hbk
        go_enter Try.func27, Try.ntmps27
        go_upto_region 1 with fail
        rw [znC0, ← hW0, ← hg]
        clear hW0 hg
        go_wp2_with (first | (refine wpList_load_row rfl 25 _ rfl g rfl 25 (znC p v) (0, 0) _ X.out Try.underlying25 rfl (by kernel_rfl) ?_) | (go_at_call 16; refine CH.out.mono ?_; rintro e w1 ⟨rfl, hb⟩; replace X := hide (X.out.below hb); replace Y := hide (Y.out.below hb); replace K0 := hide (K0.out.trans (hb.mono K0.out.size))) | (go_at_call 51; refine (BL.out _).mono ?_; rintro e w2 ⟨rfl, hb2⟩; replace X := hide (X.out.below hb2); replace Y := hide (Y.out.below hb2); replace K0 := hide (K0.out.trans (hb2.mono K0.out.size))) | (go_at_call 54; refine (OO.out _ K0.out).mono ?_; rintro e w3 ⟨rfl, hb3⟩; replace X := hide (X.out.below hb3); replace Y := hide (Y.out.below hb3); replace K0 := hide (K0.out.trans (hb3.mono K0.out.size))) | (go_at_call 53; refine (WO.out _ K0.out).mono ?_; rintro e w4 ⟨v1, L1, rfl, o1, V1, S1, hb4⟩) | (refine wpList_store_row rfl 25 _ _ rfl (g + 1) (znC p v1) rfl rfl 25 (znC p0 nv) (Y.out.below hb4) (by kernel_rfl) rfl (one_zone o1.rd) ?_))
        have KP := kp_row (cs := znC p v1) (Y.out.below hb4) (show w.heap.size ≤ g + 1 by rw [← HG.out]; omega)
        refine ret_z2 Try.results27 rfl rfl rfl (box_row (Y.out.below hb4)) ⟨p, v1, L1, by rw [EE.out], (o1.mono K0.out.size).kp KP (by decide), (K0.out.trans (hb4.mono K0.out.size)).trans KP.below, ⟨fun _ => ⟨rfl, V1, fun x => by rw [S1, dn0, dn0]⟩, fun h => absurd EE.out h⟩⟩
      · have EE := hide (show er = 6 by
          rw [HER.out]
          unfold tkE
          rw [if_neg (fun x => x HC.out), if_neg (fun x => x hbk), if_pos (by omega)])
        rw [ek] at OO
        clear ek hno hbk
        go_enter Try.func27, Try.ntmps27
        go_upto_region 1 with fail
        rw [znC0, ← hW0, ← hg]
        clear hW0 hg
        go_wp2_with (first | (refine wpList_load_row rfl 25 _ rfl g rfl 25 (znC p v) (0, 0) _ X.out Try.underlying25 rfl (by kernel_rfl) ?_) | (go_at_call 16; refine CH.out.mono ?_; rintro e w1 ⟨rfl, hb⟩; replace X := hide (X.out.below hb); replace Y := hide (Y.out.below hb); replace K0 := hide (K0.out.trans (hb.mono K0.out.size))) | (go_at_call 51; refine (BL.out _).mono ?_; rintro e w2 ⟨rfl, hb2⟩; replace X := hide (X.out.below hb2); replace Y := hide (Y.out.below hb2); replace K0 := hide (K0.out.trans (hb2.mono K0.out.size))) | (go_at_call 54; refine (OO.out _ K0.out).mono ?_; rintro e w3 ⟨rfl, hb3⟩; replace Y := hide (Y.out.below hb3); replace K0 := hide (K0.out.trans (hb3.mono K0.out.size))) | (refine wpList_store_row rfl 25 _ _ rfl (g + 1) (znC p0 nv) rfl rfl 25 (znC p0 nv) Y.out (by kernel_rfl) rfl (one_zone (w := w) (ow_zero 0 w).rd) ?_))
        have KP := kp_row (cs := znC p0 nv) Y.out (show w.heap.size ≤ g + 1 by rw [← HG.out]; omega)
        refine ret_z2 Try.results27 rfl rfl rfl (box_row Y.out) ⟨p0, nv, nf, by rw [EE.out], ow_zero _ _, K0.out.trans KP.below, ⟨fun h => absurd (EE.out.symm.trans h) (by decide), fun _ => ⟨rfl, rfl⟩⟩⟩
    · rw [decide_eq_false hbk] at BL
      have EE := hide (show er = 2 by
        rw [HER.out]
        unfold tkE
        rw [if_neg (fun x => x HC.out), if_pos hbk])
      clear hbk
      go_enter Try.func27, Try.ntmps27
      go_upto_region 1 with fail
      rw [znC0, ← hW0, ← hg]
      clear hW0 hg
      go_wp2_with (first | (refine wpList_load_row rfl 25 _ rfl g rfl 25 (znC p v) (0, 0) _ X.out Try.underlying25 rfl (by kernel_rfl) ?_) | (go_at_call 16; refine CH.out.mono ?_; rintro e w1 ⟨rfl, hb⟩; replace X := hide (X.out.below hb); replace Y := hide (Y.out.below hb); replace K0 := hide (K0.out.trans (hb.mono K0.out.size))) | (go_at_call 51; refine (BL.out _).mono ?_; rintro e w2 ⟨rfl, hb2⟩; replace Y := hide (Y.out.below hb2); replace K0 := hide (K0.out.trans (hb2.mono K0.out.size))) | (refine wpList_store_row rfl 25 _ _ rfl (g + 1) (znC p0 nv) rfl rfl 25 (znC p0 nv) Y.out (by kernel_rfl) rfl (one_zone (w := w) (ow_zero 0 w).rd) ?_))
      have KP := kp_row (cs := znC p0 nv) Y.out (show w.heap.size ≤ g + 1 by rw [← HG.out]; omega)
      refine ret_z2 Try.results27 rfl rfl rfl (box_row Y.out) ⟨p0, nv, nf, by rw [EE.out], ow_zero _ _, K0.out.trans KP.below, ⟨fun h => absurd (EE.out.symm.trans h) (by decide), fun _ => ⟨rfl, rfl⟩⟩⟩
  · have EE := hide (show er = chk p L by
      rw [HER.out]
      unfold tkE
      rw [if_pos hc])
    have hne : (chk p L != 0) = true := by simpa using hc
    have HC := hide hc
    generalize chk p L = ce at *
    clear hc
    go_enter Try.func27, Try.ntmps27
    go_upto_region 1 with fail
    rw [znC0, ← hW0, ← hg]
    clear hW0 hg
    go_wp2_with (first | (refine wpList_load_row rfl 25 _ rfl g rfl 25 (znC p v) (0, 0) _ X.out Try.underlying25 rfl (by kernel_rfl) ?_) | (go_at_call 16; refine CH.out.mono ?_; rintro e w1 ⟨rfl, hb⟩) | (refine wpList_store_row rfl 25 _ _ rfl (g + 1) (znC p0 nv) rfl rfl 25 (znC p0 nv) (Y.out.below hb) (by kernel_rfl) rfl (one_zone (w := w) (ow_zero 0 w).rd) ?_))
    have KP := kp_row (cs := znC p0 nv) (Y.out.below hb) (show w.heap.size ≤ g + 1 by rw [← HG.out]; omega)
    refine ret_z2 Try.results27 rfl rfl rfl (box_row (Y.out.below hb)) ⟨p0, nv, nf, by rw [EE.out], ow_zero _ _, (K0.out.trans (hb.mono K0.out.size)).trans KP.below, ⟨fun h => absurd (EE.out.symm.trans h) HC.out, fun _ => ⟨rfl, rfl⟩⟩⟩
end Go.Proofs.Ytflplldamefhoaa.Bd
