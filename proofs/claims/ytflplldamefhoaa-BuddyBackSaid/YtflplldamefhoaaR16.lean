import Derived.Test.YtflplldamefhoaaR15
namespace Go.Proofs.Ytflplldamefhoaa.Bd
open Go Go.RowKit
set_option linter.unusedVariables false
theorem frs_len (p : Pm) (L : Fl) : (frs p L).length ≤ 256 := by
  unfold frs
  split
  · exact fr_len L 256
  · exact Nat.zero_le _
set_option maxRecDepth 100000 in
set_option maxHeartbeats 8000000 in
theorem rcount_any (p : Pm) (v : Nat → Value) (L : Fl) (w : World) (hz : ZIn w p v L) : Calls Try.prog 35 #[.agg (znC p v)] w fun e w' => e = .returned (.int .i64 ((frs p L).length : Nat)) ∧ Below w.heap.size w w' := by
  have X := hide (Box.new w 25 (znC p v))
  have K0 := hide (bal (brefl w) (.cells (znC p v) 25))
  obtain ⟨g, hg⟩ : ∃ g, g = w.heap.size := ⟨_, rfl⟩
  obtain ⟨W0, hW0⟩ : ∃ W0, W0 = (w.alloc (.cells (znC p v) 25)) := ⟨_, rfl⟩
  rw [← hg, ← hW0] at X
  rw [← hW0] at K0
  have FR := hide (rframes_any p v L W0 (hz.below K0.out))
  have HLN := hide (frs_len p L)
  clear hz
  generalize frs p L = l at *
  go_enter Try.func35, Try.ntmps35
  go_upto_region 1 with fail
  rw [← hg, ← hW0]
  clear hg hW0
  go_wp2_with (first | (refine wpList_load_row rfl 25 _ rfl g rfl 25 (znC p v) (0, 0) _ X.out Try.underlying25 rfl (by kernel_rfl) ?_) | (go_at_call 33; refine FR.out.mono ?_; rintro e w1 ⟨u, rfl, ou, hb⟩; obtain ⟨A, c, ev, _⟩ := row_form ou; subst ev; replace K0 := hide (K0.out.trans (hb.mono K0.out.size)); clear hb ou))
  go_ret
  exact ⟨rfl, K0.out⟩
end Go.Proofs.Ytflplldamefhoaa.Bd
