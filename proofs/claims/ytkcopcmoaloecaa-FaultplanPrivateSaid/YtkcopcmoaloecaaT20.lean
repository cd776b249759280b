import Derived.Test.YtkcopcmoaloecaaT191
import Derived.Test.YtkcopcmoaloecaaT192
import Derived.Test.YtkcopcmoaloecaaT193
namespace Go.Proofs.Ytkcopcmoaloecaa.Fp
open Go Go.RowKit
set_option linter.unusedVariables false
set_option linter.unusedSimpArgs false

set_option maxRecDepth 100000 in
set_option maxHeartbeats 8000000 in
theorem ra_err (wr rg : Bool) (pr : Int) (sh fi be bu : Bool) (en : Int) (wb tr ow on ca ba di fu : Bool) (mi : Int) (ch : Int) (hc : ch ≠ 0) (w : World) (CP : Hid (∀ w, Calls Try.prog 14 #[.agg #[.bool wr, .bool rg, .int .i64 pr, .bool sh, .bool fi, .bool be, .bool bu, .int .i64 en, .bool wb, .bool tr, .bool ow, .bool on, .bool ca, .bool ba, .bool di, .bool fu, .int .i64 mi]] w fun e w' => e = .returned (.tuple #[.agg #[.int .i64 0, .int .i64 0, .int .i64 0, .int .i64 0, .int .i64 0], .int .i64 ch]) ∧ Below w.heap.size w w')) :
    Calls Try.prog 16 #[.agg #[.bool wr, .bool rg, .int .i64 pr, .bool sh, .bool fi, .bool be, .bool bu, .int .i64 en, .bool wb, .bool tr, .bool ow, .bool on, .bool ca, .bool ba, .bool di, .bool fu, .int .i64 mi]] w fun e w' => e = .returned (.tuple #[fV c0, .bool false, .int .i64 ch]) ∧ Below w.heap.size w w' := by
  have hb : (ch != 0) = true := bne_iff_ne.2 hc
  have s0 := hide (S2.new w ⟨wr, rg, pr, sh, fi, be, bu, en, wb, tr, ow, on, ca, ba, di, fu, mi⟩)
  go_enter Try.func16, Try.ntmps16
  go_upto_region 1 with fail
  obtain ⟨W0, hW0⟩ : ∃ W0, W0 = (w.alloc (.cells (fC ⟨wr, rg, pr, sh, fi, be, bu, en, wb, tr, ow, on, ca, ba, di, fu, mi⟩) 23)).alloc (.cells (fC c0) 23) := ⟨_, rfl⟩
  obtain ⟨g2, hg2⟩ : ∃ g2, g2 = w.heap.size := ⟨_, rfl⟩
  rw [← hW0, ← hg2] at s0
  unfold fC c0 at hW0
  dsimp only at hW0
  rw [← hW0, ← hg2]
  clear hW0 hg2
  go_wp2_with (refine wpList_load_row rfl 23 _ rfl g2 rfl 23 _ (0, 0) _ s0.out.X Try.underlying23 rfl (by kernel_rfl) ?_)
  refine (CP.out _).mono ?_
  rintro e w1 ⟨rfl, hb⟩
  have s1 := hide (s0.out.below hb)
  clear hb s0 CP
  go_upto_region 2 with fail
  have M : Below w1.heap.size w1 (w1.alloc (.cells #[.int .i64 0, .int .i64 0, .int .i64 0, .int .i64 0, .int .i64 0] 28)) := bal (brefl w1) _
  have s2 := hide (s1.out.below M)
  generalize w1.alloc (.cells #[.int .i64 0, .int .i64 0, .int .i64 0, .int .i64 0, .int .i64 0] 28) = w2 at *
  clear M
  go_wp2_with (refine wpList_store_row rfl 23 _ _ rfl (g2 + 1) (fC c0) rfl rfl 23 _ s2.out.Z (by kernel_rfl) rfl (by kernel_rfl) ?_)
  exact ret_cbi (c := c0) rfl rfl rfl rfl rfl (s2.out.ret c0).Z ⟨rfl, (s2.out.ret c0).K⟩
set_option maxHeartbeats 8000000 in
theorem rafter_any (wr rg : Bool) (pr : Int) (sh fi be bu : Bool) (en : Int) (wb tr ow on ca ba di fu : Bool) (mi : Int) (w : World) : Calls Try.prog 16 #[.agg #[.bool wr, .bool rg, .int .i64 pr, .bool sh, .bool fi, .bool be, .bool bu, .int .i64 en, .bool wb, .bool tr, .bool ow, .bool on, .bool ca, .bool ba, .bool di, .bool fu, .int .i64 mi]] w fun e w' => e = .returned (.tuple #[fV (afE ⟨wr, rg, pr, sh, fi, be, bu, en, wb, tr, ow, on, ca, ba, di, fu, mi⟩), .bool (dnE ⟨wr, rg, pr, sh, fi, be, bu, en, wb, tr, ow, on, ca, ba, di, fu, mi⟩), .int .i64 (chk ⟨wr, rg, pr, sh, fi, be, bu, en, wb, tr, ow, on, ca, ba, di, fu, mi⟩)]) ∧ Below w.heap.size w w' := by
  have CP := fun w => rplan_case wr rg pr sh fi be bu en wb tr ow on ca ba di fu mi w
  unfold PlR at CP
  by_cases h : chk ⟨wr, rg, pr, sh, fi, be, bu, en, wb, tr, ow, on, ca, ba, di, fu, mi⟩ = 0
  rotate_left 1
  · have e1 : plE ⟨wr, rg, pr, sh, fi, be, bu, en, wb, tr, ow, on, ca, ba, di, fu, mi⟩ = p0 := by unfold plE; rw [if_neg h]
    have e2 : afE ⟨wr, rg, pr, sh, fi, be, bu, en, wb, tr, ow, on, ca, ba, di, fu, mi⟩ = c0 := by unfold afE; rw [if_neg h]
    have e3 : dnE ⟨wr, rg, pr, sh, fi, be, bu, en, wb, tr, ow, on, ca, ba, di, fu, mi⟩ = false := by unfold dnE; rw [decide_eq_false h]; rfl
    rw [e1] at CP
    rw [e2, e3]
    exact ra_err wr rg pr sh fi be bu en wb tr ow on ca ba di fu mi _ h w CP
  have hk := ix_le ⟨wr, rg, pr, sh, fi, be, bu, en, wb, tr, ow, on, ca, ba, di, fu, mi⟩
  have e1 : plE ⟨wr, rg, pr, sh, fi, be, bu, en, wb, tr, ow, on, ca, ba, di, fu, mi⟩ = rp (ix ⟨wr, rg, pr, sh, fi, be, bu, en, wb, tr, ow, on, ca, ba, di, fu, mi⟩) mi := by unfold plE; rw [if_pos h]; rfl
  have e2 : afE ⟨wr, rg, pr, sh, fi, be, bu, en, wb, tr, ow, on, ca, ba, di, fu, mi⟩ = cr ⟨wr, rg, pr, sh, fi, be, bu, en, wb, tr, ow, on, ca, ba, di, fu, mi⟩ (rp (ix ⟨wr, rg, pr, sh, fi, be, bu, en, wb, tr, ow, on, ca, ba, di, fu, mi⟩) mi) := by unfold afE; rw [if_pos h]; rfl
  have e3 : dnE ⟨wr, rg, pr, sh, fi, be, bu, en, wb, tr, ow, on, ca, ba, di, fu, mi⟩ = decide ((rp (ix ⟨wr, rg, pr, sh, fi, be, bu, en, wb, tr, ow, on, ca, ba, di, fu, mi⟩) mi).ac = 0 ∨ (rp (ix ⟨wr, rg, pr, sh, fi, be, bu, en, wb, tr, ow, on, ca, ba, di, fu, mi⟩) mi).ac = 1) := by unfold dnE; rw [decide_eq_true h]; rfl
  rw [e1, h] at CP
  rw [e2, e3, h]
  clear e1 e2 e3 h
  generalize ix ⟨wr, rg, pr, sh, fi, be, bu, en, wb, tr, ow, on, ca, ba, di, fu, mi⟩ = k at *
  have hk' : k = 0 ∨ k = 1 ∨ k = 2 ∨ k = 3 ∨ k = 4 ∨ k = 5 ∨ k = 6 ∨ k = 7 ∨ k = 8 ∨ k = 9 ∨ k = 10 ∨ k = 11 ∨ k = 12 ∨ k = 13 ∨ k = 14 ∨ k = 15 := by omega
  rcases hk' with rfl | rfl | rfl | rfl | rfl | rfl | rfl | rfl | rfl | rfl | rfl | rfl | rfl | rfl | rfl | rfl
  · exact ra_0 wr rg pr sh fi be bu en wb tr ow on ca ba di fu mi w CP
  · exact ra_1 wr rg pr sh fi be bu en wb tr ow on ca ba di fu mi w CP
  · exact ra_2 wr rg pr sh fi be bu en wb tr ow on ca ba di fu mi w CP
  · exact ra_3 wr rg pr sh fi be bu en wb tr ow on ca ba di fu mi w CP
  · exact ra_4 wr rg pr sh fi be bu en wb tr ow on ca ba di fu mi w CP
  · exact ra_5 wr rg pr sh fi be bu en wb tr ow on ca ba di fu mi w CP
  · exact ra_6 wr rg pr sh fi be bu en wb tr ow on ca ba di fu mi w CP
  · exact ra_7 wr rg pr sh fi be bu en wb tr ow on ca ba di fu mi w CP
  · exact ra_8 wr rg pr sh fi be bu en wb tr ow on ca ba di fu mi w CP
  · exact ra_9 wr rg pr sh fi be bu en wb tr ow on ca ba di fu mi w CP
  · cases on
    · exact ra_10f wr rg pr sh fi be bu en wb tr ow ca ba di fu mi w CP
    · exact ra_10t wr rg pr sh fi be bu en wb tr ow ca ba di fu mi _ rfl w CP
  · exact ra_11 wr rg pr sh fi be bu en wb tr ow on ca ba di fu mi w CP
  · exact ra_12 wr rg pr sh fi be bu en wb tr ow on ca ba di fu mi _ rfl w CP
  · exact ra_13 wr rg pr sh fi be bu en wb tr ow on ca ba di fu mi w CP
  · exact ra_14 wr rg pr sh fi be bu en wb tr ow on ca ba di fu mi w CP
  · exact ra_15 wr rg pr sh fi be bu en wb tr ow on ca ba di fu mi w CP
end Go.Proofs.Ytkcopcmoaloecaa.Fp
