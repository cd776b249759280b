import Derived.Test.YtimclgmajhhheaaMem
import Derived.ProofKit
import Derived.OpenShut
import Derived.Deep.DeepHandedRow
import Derived.Deep.SlicePairs
import Derived.Lib.LaidTab
import Derived.Lib.SmallJoins
import Derived.Carry
namespace Go.Proofs.Ytimclgmajhhheaa.Ac
open Go.ChangeShapes Go.WideShapes Go.ChangeAt Go.RowKit Go.Joins Go.Deep
set_option linter.unusedVariables false
theorem ownKnobNone : ownKnob Try.prog.godebug = none := by kernel_rfl
theorem laidOut : laidOutB Try.prog = true := by kernel_rfl
theorem cells3 : Try.prog.cellsOf 3 = 1 := by kernel_rfl
theorem cells58 : Try.prog.cellsOf 58 = 6 := by kernel_rfl
theorem cells4 : Try.prog.cellsOf 4 = 1 := by kernel_rfl
theorem add_at (b off k : Nat) : (⟨b, off, none⟩ : Addr).add k = ⟨b, off + k, none⟩ := by
  unfold Addr.add
  by_cases h : k = 0 <;> simp [h]
/-- where a cell can be read at an address, it is a plain one in an old block -/
theorem addr_plain {W : World} {a : Addr} {v : Value} (h : W.cell? (a.add 0) = some v) : ∃ b off, a = ⟨b, off, none⟩ ∧ b < W.heap.size := by
  obtain ⟨b, off, sp⟩ := a
  have hsp : sp = none := by
    cases sp with
    | none => rfl
    | some s =>
      exfalso
      simp only [World.cell?, Addr.add] at h
      split at h
      · simp at h
      · cases h
  subst hsp
  refine ⟨b, off, rfl, ?_⟩
  rcases Nat.lt_or_ge b W.heap.size with h1 | h1
  · exact h1
  · exfalso
    have h2 : W.heap[b]? = Option.none := Array.getElem?_eq_none h1
    rw [add_at] at h
    simp [World.cell?, h2] at h
theorem wf_i64 {x : Int} (h : (Lit.int .i64 x).wf = true) : i64r x := by
  unfold Lit.wf at h
  simp only [Bool.and_eq_true, decide_eq_true_eq, IntKind.min, IntKind.max, IntKind.signed, IntKind.bits] at h
  unfold i64r
  simp at h
  omega
section
variable {H : Type} {enc : TypeId × Value → H} {W : World} {base b0 : Nat} {v : Value} {d : DataW H} {p : List MemPlace}
theorem int_in {n : Nat} {c : Value} {x : DataW H × List MemPlace} (h : DataW.trod enc Try.prog W b0 (fun _ => true) true n 3 [c] = some x) : ∃ z, c = .int .i64 z ∧ i64r z := by
  obtain ⟨z, e, _, w⟩ := DataW.trod_int Try.underlying3 (show DataW.trod _ Try.prog W _ _ _ n 3 [c] = some x from h)
  simp only [List.cons.injEq, and_true] at e
  exact ⟨z, e, wf_i64 w⟩

theorem bool_in {n : Nat} {c : Value} {x : DataW H × List MemPlace} (h : DataW.trod enc Try.prog W b0 (fun _ => true) true n 4 [c] = some x) : ∃ z, c = .bool z := by
  obtain ⟨z, e, _⟩ := DataW.trod_bool Try.underlying4 h
  simp only [List.cons.injEq, and_true] at e
  exact ⟨z, e⟩
set_option maxRecDepth 100000 in
theorem reg_in {n : Nat} {cs : List Value} {x : DataW H × List MemPlace} (hcl : cs.length = 6) (ht : DataW.trod enc Try.prog W b0 (fun _ => true) true n 58 cs = some x) :
    ∃ (q0 q1 q2 q3 q4 q5 : Int), cs = [.int .i64 q0, .int .i64 q1, .int .i64 q2, .int .i64 q3, .int .i64 q4, .int .i64 q5] ∧ i64r q0 ∧ i64r q1 ∧ i64r q2 ∧ i64r q3 ∧ i64r q4 ∧ i64r q5 := by
  obtain ⟨xs, m', _, _, _, hlen, hg⟩ := DataW.trod_struct Try.underlying58 ht
  have g0 : DataW.trod enc Try.prog W b0 (fun _ => true) true m' 3 ((cs.drop 0).take (Try.prog.cellsOf 3)) = xs[0]? := hg 0 _ rfl
  have g1 : DataW.trod enc Try.prog W b0 (fun _ => true) true m' 3 ((cs.drop 1).take (Try.prog.cellsOf 3)) = xs[1]? := hg 1 _ rfl
  have g2 : DataW.trod enc Try.prog W b0 (fun _ => true) true m' 3 ((cs.drop 2).take (Try.prog.cellsOf 3)) = xs[2]? := hg 2 _ rfl
  have g3 : DataW.trod enc Try.prog W b0 (fun _ => true) true m' 3 ((cs.drop 3).take (Try.prog.cellsOf 3)) = xs[3]? := hg 3 _ rfl
  have g4 : DataW.trod enc Try.prog W b0 (fun _ => true) true m' 3 ((cs.drop 4).take (Try.prog.cellsOf 3)) = xs[4]? := hg 4 _ rfl
  have g5 : DataW.trod enc Try.prog W b0 (fun _ => true) true m' 3 ((cs.drop 5).take (Try.prog.cellsOf 3)) = xs[5]? := hg 5 _ rfl
  rw [cells3] at g0 g1 g2 g3 g4 g5
  match cs, hcl with
  | [z0, z1, z2, z3, z4, z5], _ =>
    simp only [List.drop, List.take] at g0 g1 g2 g3 g4 g5
    have h3 : xs.length = 6 := hlen
    rw [List.getElem?_eq_getElem (show 0 < xs.length by omega)] at g0
    rw [List.getElem?_eq_getElem (show 1 < xs.length by omega)] at g1
    rw [List.getElem?_eq_getElem (show 2 < xs.length by omega)] at g2
    rw [List.getElem?_eq_getElem (show 3 < xs.length by omega)] at g3
    rw [List.getElem?_eq_getElem (show 4 < xs.length by omega)] at g4
    rw [List.getElem?_eq_getElem (show 5 < xs.length by omega)] at g5
    obtain ⟨q0, rfl, w0⟩ := int_in g0
    obtain ⟨q1, rfl, w1⟩ := int_in g1
    obtain ⟨q2, rfl, w2⟩ := int_in g2
    obtain ⟨q3, rfl, w3⟩ := int_in g3
    obtain ⟨q4, rfl, w4⟩ := int_in g4
    obtain ⟨q5, rfl, w5⟩ := int_in g5
    exact ⟨q0, q1, q2, q3, q4, q5, rfl, w0, w1, w2, w3, w4, w5⟩
set_option maxRecDepth 100000 in
theorem open_reg (hv : Value.okWide Try.prog W .any base 58 v) (h : DataW.Trod enc Try.prog W b0 (fun _ => true) true 58 v d p) : ∃ (q0 q1 q2 q3 q4 q5 : Int), v = .agg #[.int .i64 q0, .int .i64 q1, .int .i64 q2, .int .i64 q3, .int .i64 q4, .int .i64 q5] ∧ i64r q0 ∧ i64r q1 ∧ i64r q2 ∧ i64r q3 ∧ i64r q4 ∧ i64r q5 := by
  obtain ⟨cs, rfl, hsz⟩ := okWide_struct Try.underlying58 hv
  obtain ⟨l⟩ := cs
  obtain ⟨fuel, hf⟩ := h
  obtain ⟨q0, q1, q2, q3, q4, q5, e, hw⟩ := reg_in (by simpa [Value.cells] using hsz.trans cells58) hf
  simp [Value.cells] at e
  subst e
  exact ⟨q0, q1, q2, q3, q4, q5, rfl, hw⟩
end
end Go.Proofs.Ytimclgmajhhheaa.Ac
