import Derived.Test.YtflplldamefhoaaR13
namespace Go.Proofs.Ytflplldamefhoaa.Bd
open Go Go.RowKit
set_option linter.unusedVariables false
set_option maxRecDepth 100000 in
set_option maxHeartbeats 8000000 in
theorem runus_any (p : Pm) (v : Nat → Value) (L : Fl) (o : Int) (w : World) (hz : ZIn w p v L) : Calls Try.prog 39 #[.agg (znC p v), .int .i64 o] w fun e w' => e = .returned (.int .i64 (unu p L o)) ∧ Below w.heap.size w w' := by
  obtain ⟨res, hres⟩ : ∃ r, r = unu p L o := ⟨_, rfl⟩
  rw [← hres]
  have X := hide (Box.new w 25 (znC p v))
  have K0 := hide (bal (brefl w) (.cells (znC p v) 25))
  have HRes := hide hres
  obtain ⟨g, hg⟩ : ∃ g, g = w.heap.size := ⟨_, rfl⟩
  obtain ⟨W0, hW0⟩ : ∃ W0, W0 = (w.alloc (.cells (znC p v) 25)) := ⟨_, rfl⟩
  rw [← hg, ← hW0] at X
  rw [← hW0] at K0
  have CH := hide (rcheck_any p v L W0 (hz.below K0.out))
  have HZ := hide hz
  clear hz hres
  by_cases hc : chk p L = 0
  · rw [hc] at CH
    by_cases ho : 0 ≤ o ∧ o ≤ 4
    · obtain ⟨k0, rfl⟩ : ∃ k : Nat, o = k := ⟨o.toNat, by omega⟩
      have E := hide (show res = cb L k0 by rw [HRes.out]; unfold unu; rw [if_pos ⟨hc, ho⟩, Int.toNat_natCast])
      have hk0 : k0 ≤ 4 := by omega
      have d1 : decide ((k0 : Int) < 0) = false := decide_eq_false (by omega)
      have d2 : decide ((4 : Int) < (k0 : Int)) = false := decide_eq_false (by omega)
      clear hc HRes ho
      go_enter Try.func39, Try.ntmps39
      go_upto_region 1 with fail
      rw [← hg, ← hW0]
      clear hg hW0
      go_upto_region 4 with (first | (refine wpList_load_row rfl 25 _ rfl g rfl 25 (znC p v) (0, 0) _ X.out Try.underlying25 rfl (by kernel_rfl) ?_) | (go_at_call 17; refine CH.out.mono ?_; rintro e w1 ⟨rfl, hb⟩; replace X := hide (X.out.below hb); replace K0 := hide (K0.out.trans (hb.mono K0.out.size)); clear hb))
      clear d1 d2
      go_wp2
      go_loopw [5, 6] (fun a b wr => ∃ k : Nat, k ≤ k0 ∧ a = .int .i64 (cb L k) ∧ b = .int .i64 k ∧ wr = w1) (fun _ b _ => k0 - (intOf b).toNat)
      case atStart => exact ⟨0, Nat.zero_le _, rfl, rfl, rfl⟩
      case round =>
        obtain ⟨k, hk, rfl, rfl, rfl⟩ := hrel
        by_cases hlt : k < k0
        · have h5 : k < 5 := by omega
          have hk5 : (k : Int) < 5 := by omega
          have hdl : decide ((k : Int) < (k0 : Int)) = true := decide_eq_true (by omega)
          have s0 := box_list X.out h5
          obtain ⟨A, c, ev, hcap, r⟩ := HZ.out.rd k h5
          rw [ev] at s0
          have hl := HZ.out.len k h5
          have hm := wrm h5 hl
          have b1 := cb_bd HZ.out.len k (by omega)
          have b2 := cb_bd HZ.out.len (k + 1) (by omega)
          have e2 : cb L (k + 1) = cb L k + (L k).length * bw k := rfl
          rw [e2] at b2
          have EC := hide e2
          clear ev r hcap e2
          generalize cb L k = q at *
          generalize (L k).length = n at *
          generalize hnb : (n : Int) * bw k = nb at *
          have hr : -9223372036854775808 ≤ q + nb ∧ q + nb ≤ 9223372036854775807 := by omega
          clear hnb
          go_wp2
          go_roundw
          case rel => exact ⟨k + 1, by omega, by rw [EC.out], by go_num, by first | rfl | trivial⟩
          case measure => simp [intOf]; omega
        · obtain rfl : k = k0 := by omega
          have hdl : decide ((k : Int) < (k : Int)) = false := decide_eq_false (by omega)
          generalize cb L k = q at *
          go_wp2
          go_ret
          exact ⟨ret_int E.out.symm, K0.out⟩
    · have E := hide (show res = 0 by rw [HRes.out]; unfold unu; rw [if_neg (fun h => ho h.2)])
      by_cases h0 : o < 0
      · have d1 : decide (o < 0) = true := decide_eq_true h0
        clear hc ho h0
        go_enter Try.func39, Try.ntmps39
        go_upto_region 1 with fail
        rw [← hg, ← hW0]
        clear hg hW0
        go_wp2_with (first | (refine wpList_load_row rfl 25 _ rfl g rfl 25 (znC p v) (0, 0) _ X.out Try.underlying25 rfl (by kernel_rfl) ?_) | (go_at_call 17; refine CH.out.mono ?_; rintro e w1 ⟨rfl, hb⟩; replace X := hide (X.out.below hb); replace K0 := hide (K0.out.trans (hb.mono K0.out.size)); clear hb))
        go_ret
        exact ⟨ret_int E.out.symm, K0.out⟩
      · have d1 : decide (o < 0) = false := decide_eq_false h0
        have d2 : decide (4 < o) = true := decide_eq_true (by omega)
        clear hc ho h0
        go_enter Try.func39, Try.ntmps39
        go_upto_region 1 with fail
        rw [← hg, ← hW0]
        clear hg hW0
        go_wp2_with (first | (refine wpList_load_row rfl 25 _ rfl g rfl 25 (znC p v) (0, 0) _ X.out Try.underlying25 rfl (by kernel_rfl) ?_) | (go_at_call 17; refine CH.out.mono ?_; rintro e w1 ⟨rfl, hb⟩; replace X := hide (X.out.below hb); replace K0 := hide (K0.out.trans (hb.mono K0.out.size)); clear hb))
        go_ret
        exact ⟨ret_int E.out.symm, K0.out⟩
  · have E := hide (show res = 0 by rw [HRes.out]; unfold unu; rw [if_neg (fun h => hc h.1)])
    have hne : (chk p L != 0) = true := by simpa using hc
    generalize chk p L = ce at *
    clear hc
    go_enter Try.func39, Try.ntmps39
    go_upto_region 1 with fail
    rw [← hg, ← hW0]
    clear hg hW0
    go_wp2_with (first | (refine wpList_load_row rfl 25 _ rfl g rfl 25 (znC p v) (0, 0) _ X.out Try.underlying25 rfl (by kernel_rfl) ?_) | (go_at_call 17; refine CH.out.mono ?_; rintro e w1 ⟨rfl, hb⟩; replace X := hide (X.out.below hb); replace K0 := hide (K0.out.trans (hb.mono K0.out.size)); clear hb))
    go_ret
    exact ⟨ret_int E.out.symm, K0.out⟩
end Go.Proofs.Ytflplldamefhoaa.Bd
