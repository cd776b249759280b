import Derived.Test.YtkcopcmoaloecaaT14a
namespace Go.Proofs.Ytkcopcmoaloecaa.Fp
open Go Go.RowKit
set_option linter.unusedVariables false
set_option linter.unusedSimpArgs false
set_option maxHeartbeats 4000000 in
theorem ex_eql (a b : Fc) {o : Oper} {f : Operand → Value} (x y : Operand) (ho : o.op = .binOp .eql 23 x y 23) (hx : f x = .agg (fC a)) (hy : f y = .agg (fC b)) (w : World) :
    (execOp f o).run Try.prog w = .ok (.value (.bool (decide (a = b)))) w := by
  obtain ⟨wr, rg, pr, sh, fi, be, bu, en, wb, tr, ow, on, ca, ba, di, fu, mi⟩ := a
  obtain ⟨wr', rg', pr', sh', fi', be', bu', en', wb', tr', ow', on', ca', ba', di', fu', mi'⟩ := b
  unfold fC at hx hy
  dsimp only at hx hy
  unfold execOp
  simp only [ho, hx, hy]
  go_simp
  by_cases h0 : wr = wr'
  rotate_left 1
  · rw [if_neg h0, decide_eq_false h0, Bool.false_and]
  rw [if_pos h0, decide_eq_true h0, Bool.true_and]
  by_cases h1 : rg = rg'
  rotate_left 1
  · rw [if_neg h1, decide_eq_false h1, Bool.false_and]
  rw [if_pos h1, decide_eq_true h1, Bool.true_and]
  by_cases h2 : pr = pr'
  rotate_left 1
  · rw [if_neg h2, decide_eq_false h2, Bool.false_and]
  rw [if_pos h2, decide_eq_true h2, Bool.true_and]
  by_cases h3 : sh = sh'
  rotate_left 1
  · rw [if_neg h3, decide_eq_false h3, Bool.false_and]
  rw [if_pos h3, decide_eq_true h3, Bool.true_and]
  by_cases h4 : fi = fi'
  rotate_left 1
  · rw [if_neg h4, decide_eq_false h4, Bool.false_and]
  rw [if_pos h4, decide_eq_true h4, Bool.true_and]
  by_cases h5 : be = be'
  rotate_left 1
  · rw [if_neg h5, decide_eq_false h5, Bool.false_and]
  rw [if_pos h5, decide_eq_true h5, Bool.true_and]
  by_cases h6 : bu = bu'
  rotate_left 1
  · rw [if_neg h6, decide_eq_false h6, Bool.false_and]
  rw [if_pos h6, decide_eq_true h6, Bool.true_and]
  by_cases h7 : en = en'
  rotate_left 1
  · rw [if_neg h7, decide_eq_false h7, Bool.false_and]
  rw [if_pos h7, decide_eq_true h7, Bool.true_and]
  by_cases h8 : wb = wb'
  rotate_left 1
  · rw [if_neg h8, decide_eq_false h8, Bool.false_and]
  rw [if_pos h8, decide_eq_true h8, Bool.true_and]
  by_cases h9 : tr = tr'
  rotate_left 1
  · rw [if_neg h9, decide_eq_false h9, Bool.false_and]
  rw [if_pos h9, decide_eq_true h9, Bool.true_and]
  by_cases h10 : ow = ow'
  rotate_left 1
  · rw [if_neg h10, decide_eq_false h10, Bool.false_and]
  rw [if_pos h10, decide_eq_true h10, Bool.true_and]
  by_cases h11 : on = on'
  rotate_left 1
  · rw [if_neg h11, decide_eq_false h11, Bool.false_and]
  rw [if_pos h11, decide_eq_true h11, Bool.true_and]
  by_cases h12 : ca = ca'
  rotate_left 1
  · rw [if_neg h12, decide_eq_false h12, Bool.false_and]
  rw [if_pos h12, decide_eq_true h12, Bool.true_and]
  by_cases h13 : ba = ba'
  rotate_left 1
  · rw [if_neg h13, decide_eq_false h13, Bool.false_and]
  rw [if_pos h13, decide_eq_true h13, Bool.true_and]
  by_cases h14 : di = di'
  rotate_left 1
  · rw [if_neg h14, decide_eq_false h14, Bool.false_and]
  rw [if_pos h14, decide_eq_true h14, Bool.true_and]
  by_cases h15 : fu = fu'
  rotate_left 1
  · rw [if_neg h15, decide_eq_false h15, Bool.false_and]
  rw [if_pos h15, decide_eq_true h15, Bool.true_and]
  by_cases h16 : mi = mi'
  · rw [if_pos h16, decide_eq_true h16]
  · rw [if_neg h16, decide_eq_false h16]
theorem ex_load {o : Oper} {f : Operand → Value} {w : World} {g : Nat} {c : Fc} (x : Operand) (ho : o.op = .load 23 x) (hx : f x = .pointer (some ⟨g, 0, none⟩)) (hg : CB w g c) :
    (execOp f o).run Try.prog w = .ok (.value (.agg (fC c))) w := by
  have hl : (loadVar 23 ⟨g, 0, none⟩).run Try.prog w = .ok (.agg (fC c)) w := run_loadVar_row w g 23 23 _ (0, 0) _ hg Try.underlying23 rfl (by kernel_rfl)
  unfold execOp
  simp only [ho, hx, Instr.loadAt, Instr.sureAddr, Sem.run_bind, Sem.run_pure, Result.andThen_ok, hl]
end Go.Proofs.Ytkcopcmoaloecaa.Fp
