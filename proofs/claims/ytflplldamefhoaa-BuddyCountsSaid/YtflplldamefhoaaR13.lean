import Derived.Test.YtflplldamefhoaaR10
import Derived.Test.YtflplldamefhoaaCt2
namespace Go.Proofs.Ytflplldamefhoaa.Bd
open Go Go.RowKit
set_option linter.unusedVariables false
theorem grt_bd (L : Fl) : ∀ k, k ≤ 5 → -1 ≤ grt L k ∧ grt L k ≤ 5
  | 0, _ => by simp [grt]
  | k + 1, h => by
    have ih := grt_bd L k (by omega)
    unfold grt
    split <;> omega
set_option maxRecDepth 100000 in
set_option maxHeartbeats 8000000 in
theorem rlarg_any (p : Pm) (v : Nat → Value) (L : Fl) (w : World) (hz : ZIn w p v L) : Calls Try.prog 37 #[.agg (znC p v)] w fun e w' => e = .returned (.int .i64 (lrg p L)) ∧ Below w.heap.size w w' := by
  obtain ⟨res, hres⟩ : ∃ r, r = lrg p L := ⟨_, rfl⟩
  rw [← hres]
  have X := hide (Box.new w 25 (znC p v))
  have K0 := hide (bal (brefl w) (.cells (znC p v) 25))
  have HRes := hide hres
  obtain ⟨g, hg⟩ : ∃ g, g = w.heap.size := ⟨_, rfl⟩
  obtain ⟨W0, hW0⟩ : ∃ W0, W0 = (w.alloc (.cells (znC p v) 25)) := ⟨_, rfl⟩
  rw [← hg, ← hW0] at X
  rw [← hW0] at K0
  have CH := hide (rcheck_any p v L W0 (hz.below K0.out))
  have HZ := hide hz
  clear hz hres
  by_cases hc : chk p L = 0
  · have E := hide (show res = grt L 5 by rw [HRes.out]; unfold lrg; rw [if_pos hc])
    rw [hc] at CH
    clear hc HRes
    go_enter Try.func37, Try.ntmps37
    go_upto_region 1 with fail
    rw [← hg, ← hW0]
    clear hg hW0
    go_upto_region 4 with (first | (refine wpList_load_row rfl 25 _ rfl g rfl 25 (znC p v) (0, 0) _ X.out Try.underlying25 rfl (by kernel_rfl) ?_) | (go_at_call 17; refine CH.out.mono ?_; rintro e w1 ⟨rfl, hb⟩; replace X := hide (X.out.below hb); replace K0 := hide (K0.out.trans (hb.mono K0.out.size)); clear hb))
    go_wp2
    go_loopw [3, 4] (fun a b wr => ∃ k : Nat, k ≤ 5 ∧ a = .int .i64 (grt L k) ∧ b = .int .i64 k ∧ wr = w1) (fun _ b _ => 5 - (intOf b).toNat)
    case atStart => exact ⟨0, by omega, rfl, rfl, rfl⟩
    case round =>
      obtain ⟨k, hk, rfl, rfl, rfl⟩ := hrel
      by_cases h5 : k < 5
      · have hk5 : (k : Int) < 5 := by omega
        have hle : decide ((k : Int) ≤ 4) = true := decide_eq_true (by omega)
        have s0 := box_list X.out h5
        obtain ⟨A, c, ev, hcap, r⟩ := HZ.out.rd k h5
        rw [ev] at s0
        by_cases hn : L k = []
        · have E2 := hide (show grt L (k + 1) = grt L k by show (if L k = [] then grt L k else (k : Int)) = _; rw [if_pos hn])
          rw [hn] at s0
          clear hn ev r hcap
          generalize grt L k = q at *
          go_wp2
          go_roundw
          case rel => exact ⟨k + 1, by omega, by rw [E2.out], by go_num, by first | rfl | trivial⟩
          case measure => simp [intOf]; omega
        · have E2 := hide (show grt L (k + 1) = (k : Int) by show (if L k = [] then grt L k else (k : Int)) = _; rw [if_neg hn])
          have hlen : 0 < (L k).length := List.length_pos_iff.2 hn
          have hl0 : decide (0 < (L k).length) = true := decide_eq_true hlen
          clear hn ev r hcap
          generalize (L k).length = n at *
          go_wp2
          go_roundw
          case rel => exact ⟨k + 1, by omega, by rw [E2.out], by go_num, by first | rfl | trivial⟩
          case measure => simp [intOf]; omega
      · obtain rfl : k = 5 := by omega
        generalize grt L 5 = q at *
        go_wp2
        go_ret
        exact ⟨ret_int E.out.symm, K0.out⟩
  · have E := hide (show res = -1 by rw [HRes.out]; unfold lrg; rw [if_neg hc])
    have hne : (chk p L != 0) = true := by simpa using hc
    generalize chk p L = ce at *
    clear hc
    go_enter Try.func37, Try.ntmps37
    go_upto_region 1 with fail
    rw [← hg, ← hW0]
    clear hg hW0
    go_wp2_with (first | (refine wpList_load_row rfl 25 _ rfl g rfl 25 (znC p v) (0, 0) _ X.out Try.underlying25 rfl (by kernel_rfl) ?_) | (go_at_call 17; refine CH.out.mono ?_; rintro e w1 ⟨rfl, hb⟩; replace X := hide (X.out.below hb); replace K0 := hide (K0.out.trans (hb.mono K0.out.size)); clear hb))
    go_ret
    exact ⟨ret_int E.out.symm, K0.out⟩
end Go.Proofs.Ytflplldamefhoaa.Bd
