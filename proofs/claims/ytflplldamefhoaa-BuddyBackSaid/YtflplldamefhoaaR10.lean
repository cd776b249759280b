import Derived.Test.YtflplldamefhoaaR7
namespace Go.Proofs.Ytflplldamefhoaa.Bd
open Go Go.RowKit
set_option linter.unusedVariables false
theorem ins_blk0 {p : Pm} {L : Fl} (h : Lst p L) {f : Int} (hi : InS L f) : blk p 0 f := by
  obtain ⟨k, hk, hc⟩ := hi
  have := h.blk k hk _ hc
  have h1 := dn_le k f
  have h2 := dn_lt k f
  unfold blk at this
  exact blk0.2 (by omega)
set_option maxRecDepth 100000 in
set_option maxHeartbeats 8000000 in
theorem risfree_any (p : Pm) (v : Nat → Value) (L : Fl) (f : Int) (hf : i64r f) (w : World) (hz : ZIn w p v L) : Calls Try.prog 30 #[.agg (znC p v), .int .i64 f] w fun e w' => e = .returned (.bool (isF p L f)) ∧ Below w.heap.size w w' := by
  have X := hide (Box.new w 25 (znC p v))
  have K0 := hide (bal (brefl w) (.cells (znC p v) 25))
  obtain ⟨res, hres⟩ : ∃ r, r = isF p L f := ⟨_, rfl⟩
  rw [← hres]
  have HRes := hide hres
  obtain ⟨g, hg⟩ : ∃ g, g = w.heap.size := ⟨_, rfl⟩
  obtain ⟨W0, hW0⟩ : ∃ W0, W0 = (w.alloc (.cells (znC p v) 25)) := ⟨_, rfl⟩
  rw [← hg, ← hW0] at X
  rw [← hW0] at K0
  have CH := hide (rcheck_any p v L W0 (hz.below K0.out))
  have HZ := hide hz
  have HF := hide hf
  clear hz hres hf
  by_cases hc : chk p L = 0
  · obtain ⟨hp, V⟩ := chk_zero.1 hc
    have HP := hide hp
    have HV := hide V
    have HC := hide hc
    have BL := hide (fun w1 => rblock_in p v f 0 (by omega) HF.out hp w1)
    have RS := hide (fun w1 (hb : Below w.heap.size w w1) => rset_any p v L w1 HP.out HV.out.toLst (HZ.out.rd.below hb))
    unfold ZS at RS
    rw [hc] at CH
    clear hc hp V
    by_cases hbk : blk p 0 f
    · rw [decide_eq_true hbk] at BL
      have hbd := blk_bd HP.out hbk
      simp only [bw] at hbd
      obtain ⟨a, rfl⟩ : ∃ a : Nat, f = a := ⟨f.toNat, by omega⟩
      have ha : a < 256 := by omega
      have ha' : (a : Int) < 256 := by omega
      have E := hide (show res = decide (0 < cn L 5 a) by
        rw [HRes.out]
        unfold isF
        exact decide_eq_decide.2 ⟨fun h => cn_in.2 (oof_in.1 h.2), fun h => ⟨HC.out, oof_in.2 (cn_in.1 h)⟩⟩)
      clear hbk hbd
      go_enter Try.func30, Try.ntmps30
      go_upto_region 1 with fail
      rw [← hg, ← hW0]
      clear hg hW0
      go_wp2_with (first | (refine wpList_load_row rfl 25 _ rfl g rfl 25 (znC p v) (0, 0) _ X.out Try.underlying25 rfl (by kernel_rfl) ?_) | (go_at_call 17; refine CH.out.mono ?_; rintro e w1 ⟨rfl, hb⟩; replace X := hide (X.out.below hb); replace K0 := hide (K0.out.trans (hb.mono K0.out.size)); clear hb; obtain ⟨y0, y1, y2, y3, y4, y5, y6, y7, y8, y9⟩ := box_all X.out) | (go_at_call 48; refine (BL.out _).mono ?_; rintro e w2 ⟨rfl, hb⟩; clear y0 y1 y2 y3 y4 y5 y6 y7 y8 y9; replace X := hide (X.out.below hb); replace K0 := hide (K0.out.trans (hb.mono K0.out.size)); clear hb; obtain ⟨y0, y1, y2, y3, y4, y5, y6, y7, y8, y9⟩ := box_all X.out) | (go_at_call 47; refine (RS.out _ K0.out).mono ?_; rintro e w3 ⟨gs, rfl, ri, hgs, hb⟩; clear y0 y1 y2 y3 y4 y5 y6 y7 y8 y9; have cell : w3.cell? ⟨gs, a, none⟩ = some (.int .i64 ((cn L 5 a : Nat) : Int)) := ri.cell ha; clear ri hgs; replace K0 := hide (K0.out.trans (hb.mono K0.out.size)); clear hb; generalize cn L 5 a = q at *))
      go_ret
      exact ⟨ret_bool E.out.symm, K0.out⟩
    · rw [decide_eq_false hbk] at BL
      have E := hide (show res = false by
        rw [HRes.out]
        unfold isF
        exact decide_eq_false fun h => hbk (ins_blk0 HV.out.toLst (oof_in.1 h.2)))
      clear hbk
      go_enter Try.func30, Try.ntmps30
      go_upto_region 1 with fail
      rw [← hg, ← hW0]
      clear hg hW0
      go_wp2_with (first | (refine wpList_load_row rfl 25 _ rfl g rfl 25 (znC p v) (0, 0) _ X.out Try.underlying25 rfl (by kernel_rfl) ?_) | (go_at_call 17; refine CH.out.mono ?_; rintro e w1 ⟨rfl, hb⟩; replace X := hide (X.out.below hb); replace K0 := hide (K0.out.trans (hb.mono K0.out.size)); clear hb; obtain ⟨y0, y1, y2, y3, y4, y5, y6, y7, y8, y9⟩ := box_all X.out) | (go_at_call 48; refine (BL.out _).mono ?_; rintro e w2 ⟨rfl, hb⟩; clear y0 y1 y2 y3 y4 y5 y6 y7 y8 y9; replace X := hide (X.out.below hb); replace K0 := hide (K0.out.trans (hb.mono K0.out.size)); clear hb; obtain ⟨y0, y1, y2, y3, y4, y5, y6, y7, y8, y9⟩ := box_all X.out))
      go_ret
      exact ⟨ret_bool E.out.symm, K0.out⟩
  · have E := hide (show res = false by
      rw [HRes.out]
      unfold isF
      exact decide_eq_false (fun h => hc h.1))
    have hne : (chk p L == 0) = false := by simpa using hc
    generalize chk p L = ce at *
    clear hc
    go_enter Try.func30, Try.ntmps30
    go_upto_region 1 with fail
    rw [← hg, ← hW0]
    clear hg hW0
    go_wp2_with (first | (refine wpList_load_row rfl 25 _ rfl g rfl 25 (znC p v) (0, 0) _ X.out Try.underlying25 rfl (by kernel_rfl) ?_) | (go_at_call 17; refine CH.out.mono ?_; rintro e w1 ⟨rfl, hb⟩))
    go_ret
    exact ⟨ret_bool E.out.symm, K0.out.trans (hb.mono K0.out.size)⟩
end Go.Proofs.Ytflplldamefhoaa.Bd
