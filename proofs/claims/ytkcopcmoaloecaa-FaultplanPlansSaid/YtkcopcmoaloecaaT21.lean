import Derived.Test.YtkcopcmoaloecaaT17
import Derived.Test.YtkcopcmoaloecaaT18
namespace Go.Proofs.Ytkcopcmoaloecaa.Fp
open Go Go.RowKit
set_option linter.unusedVariables false
set_option linter.unusedSimpArgs false
theorem wpList_ex {ops : Array Oper} {rest : List Oper} {o : Oper} {a : Act} {w : World} {Q : Exit → Act → World → Prop} {v : Value} (hgd : o.guard = none) (h : (execOp a.eval o).run Try.prog w = .ok (.value v) w)
    (hk : wpList Try.prog ops Q rest (a.put o.dst v) w) : wpList Try.prog ops Q (o :: rest) a w :=
  wpList_plain hgd fun _ hK => by unfold Oper.wp; rw [h]; exact hK _ _ hk
set_option maxRecDepth 100000 in
set_option maxHeartbeats 16000000 in
theorem law_plans (wr rg : Bool) (pr : Int) (sh fi be bu : Bool) (en : Int) (wb tr ow on ca ba di fu : Bool) (mi : Int) (w : World) : Calls Try.prog 4 #[.agg #[.bool wr, .bool rg, .int .i64 pr, .bool sh, .bool fi, .bool be, .bool bu, .int .i64 en, .bool wb, .bool tr, .bool ow, .bool on, .bool ca, .bool ba, .bool di, .bool fu, .int .i64 mi]] w fun e w' => e = .returned (.bool true) ∧ Below w.heap.size w w' := by
  have AWK := hide (fun w => awake_any w)
  have CP := fun w => plan_any wr rg pr sh fi be bu en wb tr ow on ca ba di fu mi w
  have CQ := fun w => rplan_case wr rg pr sh fi be bu en wb tr ow on ca ba di fu mi w
  unfold PlR at CP CQ
  obtain ⟨ch, hch⟩ : ∃ n, n = chk ⟨wr, rg, pr, sh, fi, be, bu, en, wb, tr, ow, on, ca, ba, di, fu, mi⟩ := ⟨_, rfl⟩
  obtain ⟨P, hP⟩ : ∃ n, n = plE ⟨wr, rg, pr, sh, fi, be, bu, en, wb, tr, ow, on, ca, ba, di, fu, mi⟩ := ⟨_, rfl⟩
  rw [← hch, ← hP] at CP CQ
  have K := hide (bal (brefl w) (.cells #[.bool wr, .bool rg, .int .i64 pr, .bool sh, .bool fi, .bool be, .bool bu, .int .i64 en, .bool wb, .bool tr, .bool ow, .bool on, .bool ca, .bool ba, .bool di, .bool fu, .int .i64 mi] 23))
  have X := hide (CB.new w wr rg pr sh fi be bu en wb tr ow on ca ba di fu mi)
  clear hch hP
  obtain ⟨ac, er, wa, ke, us⟩ := P
  unfold pV at CP CQ
  dsimp only at CP CQ
  replace CP := hide CP
  replace CQ := hide CQ
  go_enter Try.func4, Try.ntmps4
  go_upto_region 1 with fail
  obtain ⟨W0, hW0⟩ : ∃ W0, W0 = w.alloc (.cells #[.bool wr, .bool rg, .int .i64 pr, .bool sh, .bool fi, .bool be, .bool bu, .int .i64 en, .bool wb, .bool tr, .bool ow, .bool on, .bool ca, .bool ba, .bool di, .bool fu, .int .i64 mi] 23) := ⟨_, rfl⟩
  rw [← hW0] at X K
  obtain ⟨g2, hg2⟩ : ∃ g2, g2 = w.heap.size := ⟨_, rfl⟩
  rw [← hg2] at X
  rw [← hW0, ← hg2]
  clear hW0 hg2
  go_wp2_with (refine wpList_load_row rfl 23 _ rfl g2 rfl 23 _ (0, 0) _ X.out Try.underlying23 rfl (by kernel_rfl) ?_)
  refine (CP.out _).mono ?_
  rintro e w1 ⟨rfl, hb⟩
  replace K := hide (btrans K.out hb)
  replace X := hide (X.out.below hb)
  clear hb
  go_upto_region 2 with fail
  have M : Below w1.heap.size w1 (w1.alloc (.cells #[.int .i64 ac, .int .i64 er, .int .i64 wa, .int .i64 ke, .int .i64 us] 28)) := bal (brefl w1) _
  replace K := hide (btrans K.out M)
  replace X := hide (X.out.below M)
  have Y := hide (show PB (w1.alloc (.cells #[.int .i64 ac, .int .i64 er, .int .i64 wa, .int .i64 ke, .int .i64 us] 28)) w1.heap.size ⟨ac, er, wa, ke, us⟩ from Box.new w1 28 _)
  obtain ⟨g3, hg3⟩ : ∃ q, q = w1.heap.size := ⟨_, rfl⟩
  rw [← hg3] at Y
  rw [← hg3]
  clear hg3
  generalize w1.alloc (.cells #[.int .i64 ac, .int .i64 er, .int .i64 wa, .int .i64 ke, .int .i64 us] 28) = v1 at *
  clear M
  go_wp2_with (refine wpList_load_row rfl 23 _ rfl g2 rfl 23 _ (0, 0) _ X.out Try.underlying23 rfl (by kernel_rfl) ?_)
  refine (CQ.out _).mono ?_
  rintro e w2 ⟨rfl, hb⟩
  replace K := hide (btrans K.out hb)
  replace X := hide (X.out.below hb)
  replace Y := hide (Y.out.below hb)
  clear hb
  go_upto_region 3 with fail
  have M : Below w2.heap.size w2 (w2.alloc (.cells #[.int .i64 ac, .int .i64 er, .int .i64 wa, .int .i64 ke, .int .i64 us] 28)) := bal (brefl w2) _
  replace K := hide (btrans K.out M)
  replace X := hide (X.out.below M)
  replace Y := hide (Y.out.below M)
  have Z := hide (show PB (w2.alloc (.cells #[.int .i64 ac, .int .i64 er, .int .i64 wa, .int .i64 ke, .int .i64 us] 28)) w2.heap.size ⟨ac, er, wa, ke, us⟩ from Box.new w2 28 _)
  obtain ⟨g5, hg5⟩ : ∃ q, q = w2.heap.size := ⟨_, rfl⟩
  rw [← hg5] at Z
  rw [← hg5]
  clear hg5
  generalize w2.alloc (.cells #[.int .i64 ac, .int .i64 er, .int .i64 wa, .int .i64 ke, .int .i64 us] 28) = v2 at *
  clear M
  obtain ⟨p0, p1, p2, p3, p4⟩ := Y.out.cells
  obtain ⟨q0, q1, q2, q3, q4⟩ := Z.out.cells
  go_wp2_with fail
  refine (AWK.out _).mono ?_
  rintro e w9 ⟨rfl, hb⟩
  replace K := hide (btrans K.out hb)
  clear hb
  go_wp2
  go_ret
  exact ⟨rfl, K.out⟩
end Go.Proofs.Ytkcopcmoaloecaa.Fp
