import Derived.Test.YtkcopcmoaloecaaT21
import Derived.Test.YtkcopcmoaloecaaT20
namespace Go.Proofs.Ytkcopcmoaloecaa.Fp
open Go Go.RowKit
set_option linter.unusedVariables false
set_option linter.unusedSimpArgs false
set_option maxRecDepth 100000 in
set_option maxHeartbeats 16000000 in
theorem law_afters (wr rg : Bool) (pr : Int) (sh fi be bu : Bool) (en : Int) (wb tr ow on ca ba di fu : Bool) (mi : Int) (w : World) : Calls Try.prog 5 #[.agg #[.bool wr, .bool rg, .int .i64 pr, .bool sh, .bool fi, .bool be, .bool bu, .int .i64 en, .bool wb, .bool tr, .bool ow, .bool on, .bool ca, .bool ba, .bool di, .bool fu, .int .i64 mi]] w fun e w' => e = .returned (.bool true) ∧ Below w.heap.size w w' := by
  have AWK := hide (fun w => awake_any w)
  have CP := fun w => after_any wr rg pr sh fi be bu en wb tr ow on ca ba di fu mi w
  have CQ := fun w => rafter_any wr rg pr sh fi be bu en wb tr ow on ca ba di fu mi w
  generalize chk ⟨wr, rg, pr, sh, fi, be, bu, en, wb, tr, ow, on, ca, ba, di, fu, mi⟩ = ch at *
  generalize afE ⟨wr, rg, pr, sh, fi, be, bu, en, wb, tr, ow, on, ca, ba, di, fu, mi⟩ = D at *
  generalize dnE ⟨wr, rg, pr, sh, fi, be, bu, en, wb, tr, ow, on, ca, ba, di, fu, mi⟩ = bb at *
  replace CP := hide CP
  replace CQ := hide CQ
  have K := hide (bal (brefl w) (.cells #[.bool wr, .bool rg, .int .i64 pr, .bool sh, .bool fi, .bool be, .bool bu, .int .i64 en, .bool wb, .bool tr, .bool ow, .bool on, .bool ca, .bool ba, .bool di, .bool fu, .int .i64 mi] 23))
  have X := hide (CB.new w wr rg pr sh fi be bu en wb tr ow on ca ba di fu mi)
  go_enter Try.func5, Try.ntmps5
  go_upto_region 1 with fail
  obtain ⟨W0, hW0⟩ : ∃ W0, W0 = w.alloc (.cells #[.bool wr, .bool rg, .int .i64 pr, .bool sh, .bool fi, .bool be, .bool bu, .int .i64 en, .bool wb, .bool tr, .bool ow, .bool on, .bool ca, .bool ba, .bool di, .bool fu, .int .i64 mi] 23) := ⟨_, rfl⟩
  rw [← hW0] at X K
  obtain ⟨g2, hg2⟩ : ∃ g2, g2 = w.heap.size := ⟨_, rfl⟩
  rw [← hg2] at X
  rw [← hW0, ← hg2]
  clear hW0 hg2
  go_wp2_with (refine wpList_load_row rfl 23 _ rfl g2 rfl 23 _ (0, 0) _ X.out Try.underlying23 rfl (by kernel_rfl) ?_)
  refine (CP.out _).mono ?_
  rintro e w1 ⟨rfl, hb⟩
  replace K := hide (btrans K.out hb)
  replace X := hide (X.out.below hb)
  clear hb
  go_upto_region 2 with (first | (refine wpList_store_row rfl 23 _ _ rfl w1.heap.size (fC D) rfl rfl 23 _ (Box.new w1 23 _) (by kernel_rfl) rfl (by kernel_rfl) ?_))
  have M : Below w1.heap.size w1 ((w1.alloc (.cells #[.bool false, .bool false, .int .i64 0, .bool false, .bool false, .bool false, .bool false, .int .i64 0, .bool false, .bool false, .bool false, .bool false, .bool false, .bool false, .bool false, .bool false, .int .i64 0] 23)).setRow w1.heap.size (fC D)) := row_below2 (bal (brefl w1) _) (Nat.le_refl _)
  replace K := hide (btrans K.out M)
  have X' := hide (X.out.below M)
  clear X
  have X := X'
  clear X'
  have Y := hide (show CB ((w1.alloc (.cells #[.bool false, .bool false, .int .i64 0, .bool false, .bool false, .bool false, .bool false, .int .i64 0, .bool false, .bool false, .bool false, .bool false, .bool false, .bool false, .bool false, .bool false, .int .i64 0] 23)).setRow w1.heap.size (fC D)) w1.heap.size D from box_row (Box.new w1 23 _))
  obtain ⟨v1, hv1⟩ : ∃ q, q = (w1.alloc (.cells #[.bool false, .bool false, .int .i64 0, .bool false, .bool false, .bool false, .bool false, .int .i64 0, .bool false, .bool false, .bool false, .bool false, .bool false, .bool false, .bool false, .bool false, .int .i64 0] 23)).setRow w1.heap.size (fC D) := ⟨_, rfl⟩
  obtain ⟨g3, hg3⟩ : ∃ q, q = w1.heap.size := ⟨_, rfl⟩
  rw [← hv1] at K X  Y
  rw [← hg3] at Y
  rw [← hv1, ← hg3]
  clear hv1 hg3 M
  go_wp2_with (refine wpList_load_row rfl 23 _ rfl g2 rfl 23 _ (0, 0) _ X.out Try.underlying23 rfl (by kernel_rfl) ?_)
  refine (CQ.out _).mono ?_
  rintro e w2 ⟨rfl, hb⟩
  replace K := hide (btrans K.out hb)
  replace X := hide (X.out.below hb)
  replace Y := hide (Y.out.below hb)
  clear hb
  go_upto_region 3 with (first | (refine wpList_store_row rfl 23 _ _ rfl w2.heap.size (fC D) rfl rfl 23 _ (Box.new w2 23 _) (by kernel_rfl) rfl (by kernel_rfl) ?_))
  have M : Below w2.heap.size w2 ((w2.alloc (.cells #[.bool false, .bool false, .int .i64 0, .bool false, .bool false, .bool false, .bool false, .int .i64 0, .bool false, .bool false, .bool false, .bool false, .bool false, .bool false, .bool false, .bool false, .int .i64 0] 23)).setRow w2.heap.size (fC D)) := row_below2 (bal (brefl w2) _) (Nat.le_refl _)
  replace K := hide (btrans K.out M)
  have X' := hide (X.out.below M)
  clear X
  have X := X'
  clear X'
  have Y' := hide (Y.out.below M)
  clear Y
  have Y := Y'
  clear Y'
  have Z := hide (show CB ((w2.alloc (.cells #[.bool false, .bool false, .int .i64 0, .bool false, .bool false, .bool false, .bool false, .int .i64 0, .bool false, .bool false, .bool false, .bool false, .bool false, .bool false, .bool false, .bool false, .int .i64 0] 23)).setRow w2.heap.size (fC D)) w2.heap.size D from box_row (Box.new w2 23 _))
  obtain ⟨v2, hv2⟩ : ∃ q, q = (w2.alloc (.cells #[.bool false, .bool false, .int .i64 0, .bool false, .bool false, .bool false, .bool false, .int .i64 0, .bool false, .bool false, .bool false, .bool false, .bool false, .bool false, .bool false, .bool false, .int .i64 0] 23)).setRow w2.heap.size (fC D) := ⟨_, rfl⟩
  obtain ⟨g5, hg5⟩ : ∃ q, q = w2.heap.size := ⟨_, rfl⟩
  rw [← hv2] at K X Y Z
  rw [← hg5] at Z
  rw [← hv2, ← hg5]
  clear hv2 hg5 M
  have EQ := hide (show decide (D = D) = true from decide_eq_true rfl)
  go_upto_region 3 with fail
  go_wp2_with (first | (refine wpList_ex rfl (ex_eql D D _ _ rfl rfl rfl v2) ?_; rw [EQ.out]) | (refine wpList_load_row rfl 23 _ rfl g3 rfl 23 _ (0, 0) _ Y.out Try.underlying23 rfl (by kernel_rfl) ?_) | (refine wpList_load_row rfl 23 _ rfl g5 rfl 23 _ (0, 0) _ Z.out Try.underlying23 rfl (by kernel_rfl) ?_) | (go_at_call 12; refine (AWK.out _).mono ?_; rintro e w9 ⟨rfl, hb⟩))
  go_ret
  exact ⟨rfl, btrans K.out hb⟩
end Go.Proofs.Ytkcopcmoaloecaa.Fp
