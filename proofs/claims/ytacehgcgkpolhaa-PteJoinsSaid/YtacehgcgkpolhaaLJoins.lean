import Derived.Test.YtacehgcgkpolhaaRJn
import Derived.Test.YtacehgcgkpolhaaJn
namespace Go.Proofs.Ytacehgcgkpolhaa.Pt
open Go Go.RowKit
set_option linter.unusedVariables false
set_option maxHeartbeats 2000000 in
theorem law_joins (a : Nat → Int) (w : World) (hi : In64 a) : Calls Try.prog 7 #[.agg (wdCells a)] w (True1 w) := by
  have P1 := hide (join_two a hi)
  have Q1 := hide (rjoin_two a hi)
  clear hi
  have WW := hide (Wd.new w a)
  have K := hide (bal (brefl w) (.cells (wdCells a) 37))
  generalize joinW a = x at *
  generalize joinE a = y at *
  go_enter Try.func7, Try.ntmps7
  go_wp2_with (refine wpList_load_row rfl 37 _ rfl w.heap.size rfl 37 (wdCells a) (0, 0) _ WW.out Try.underlying37 rfl (by kernel_rfl) ?_)
  refine (P1.out _).mono ?_
  rintro en w1 ⟨rfl, hb1⟩
  replace K := hide (btrans K.out hb1)
  replace WW := hide (Wd.below WW.out hb1)
  clear hb1
  go_wp2_with (refine wpList_load_row rfl 37 _ rfl w.heap.size rfl 37 (wdCells a) (0, 0) _ WW.out Try.underlying37 rfl (by kernel_rfl) ?_)
  refine (Q1.out _).mono ?_
  rintro en w2 ⟨rfl, hb1⟩
  replace K := hide (btrans K.out hb1)
  clear hb1
  go_wp2_with fail
  refine (awake _).mono ?_
  rintro en w3 ⟨rfl, hb1⟩
  replace K := hide (btrans K.out hb1)
  clear hb1
  go_wp2_with fail
  go_ret
  exact ⟨rfl, K.out⟩
end Go.Proofs.Ytacehgcgkpolhaa.Pt
