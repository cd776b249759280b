import Derived.Test.YtoogdggiemacjaaFrame
namespace Go.Proofs.Ytoogdggiemacjaa.Cw
open Go.ChangeShapes Go.WideShapes Go.ChangeAt Go.RowKit Go.Joins Go.Deep
set_option linter.unusedVariables false
theorem cells22 : Try.prog.cellsOf 22 = 2 := by kernel_rfl
section
variable {H : Type} {enc : TypeId × Value → H} {W : World} {base b0 : Nat} {v : Value} {d : DataW H} {p : List MemPlace}
theorem open_two (hv : Value.okWide Try.prog W .any base 22 v) (h : DataW.Trod enc Try.prog W b0 (fun _ => true) true 22 v d p) : ∃ (x y : Int), v = .agg #[.int .i64 x, .int .i64 y] ∧ i64r x ∧ i64r y := by
  simp only [Value.okWide, Try.underlying22] at hv
  obtain ⟨cs, rfl, hsz, _⟩ := hv
  obtain ⟨l⟩ := cs
  rw [cells22] at hsz
  match l, hsz with
  | [c0, c1], _ =>
    obtain ⟨fuel, hf⟩ := h
    obtain ⟨xs, m, _, hx, _, hlen, hg⟩ := DataW.trod_array Try.underlying22 hf
    match xs, hlen with
    | [y0, y1], _ =>
      have g0 := hg 0 (by omega)
      have g1 := hg 1 (by omega)
      simp only [cells3, Value.cells] at g0 g1
      obtain ⟨a, e0, w0⟩ := int_in (show DataW.trod enc Try.prog W b0 (fun _ => true) true m 3 [c0] = some y0 by simpa using g0)
      obtain ⟨b, e1, w1⟩ := int_in (show DataW.trod enc Try.prog W b0 (fun _ => true) true m 3 [c1] = some y1 by simpa using g1)
      subst e0 e1
      exact ⟨a, b, rfl, w0, w1⟩
end
end Go.Proofs.Ytoogdggiemacjaa.Cw
