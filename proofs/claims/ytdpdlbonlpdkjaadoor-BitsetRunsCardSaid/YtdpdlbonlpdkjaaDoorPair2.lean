import Derived.Test.YtdpdlbonlpdkjaaDoorLRuns
import Derived.Test.YtdpdlbonlpdkjaaDoorFrame
namespace Go.Proofs.YtdpdlbonlpdkjaaDoor.Bs
open Go.ChangeShapes Go.WideShapes Go.ChangeAt Go.RowKit Go.Joins
set_option linter.unusedVariables false
theorem cells33b : Tryd.prog.cellsOf 33 = 2 := by kernel_rfl
theorem cells3b : Tryd.prog.cellsOf 3 = 1 := by kernel_rfl
/-- A PAIR OF INTS THAT CAME IN (an array of two), opened. -/
theorem open_pair2 {H : Type} {enc : TypeId × Value → H} {W : World} {base b0 : Nat} {v : Value} {d : DataW H} {p : List MemPlace} (hv : Value.okWide Tryd.prog W .any base 33 v)
    (h : DataW.Trod enc Tryd.prog W b0 (fun _ => true) true 33 v d p) : ∃ (f t : Int), v = .agg #[.int .i64 f, .int .i64 t] ∧ f ≤ 9223372036854775807 ∧ t ≤ 9223372036854775807 := by
  simp only [Value.okWide, Tryd.underlying33] at hv
  obtain ⟨cs, rfl, hsz, _⟩ := hv
  obtain ⟨l⟩ := cs
  rw [cells33b] at hsz
  match l, hsz with
  | [c0, c1], _ =>
    obtain ⟨fuel, hf⟩ := h
    obtain ⟨xs, m, _, hx, _, hlen, hg⟩ := DataW.trod_array Tryd.underlying33 hf
    match xs, hlen with
    | [y0, y1], _ =>
      have g0 := hg 0 (by omega)
      have g1 := hg 1 (by omega)
      simp only [cells3b, Value.cells] at g0 g1
      obtain ⟨a, e0, _, wa⟩ := DataW.trod_int Tryd.underlying3 (show DataW.trod _ Tryd.prog W _ _ _ m 3 [c0] = some y0 by simpa using g0)
      obtain ⟨b, e1, _, wb⟩ := DataW.trod_int Tryd.underlying3 (show DataW.trod _ Tryd.prog W _ _ _ m 3 [c1] = some y1 by simpa using g1)
      simp only [List.cons.injEq, and_true] at e0 e1
      subst e0 e1
      exact ⟨a, b, rfl, by have := bounds_i64 wa; omega, by have := bounds_i64 wb; omega⟩
end Go.Proofs.YtdpdlbonlpdkjaaDoor.Bs
