import Derived.Test.YtflplldamefhoaaFrame
namespace Go.Proofs.Ytflplldamefhoaa.Bd
open Go.ChangeShapes Go.WideShapes Go.ChangeAt Go.RowKit Go.Joins Go.Deep
set_option linter.unusedVariables false
theorem cells29 : Try.prog.cellsOf 29 = 3 := by kernel_rfl
section
variable {H : Type} {enc : TypeId × Value → H} {W : World} {base b0 : Nat} {v : Value} {d : DataW H} {p : List MemPlace}
theorem open_fs (hv : Value.okWide Try.prog W .any base 22 v) (h : DataW.Trod enc Try.prog W b0 (fun _ => true) true 22 v d p) :
    ∃ (A : Option Addr) (c : Nat) (l : Is), v = .slice A l.length c ∧ l.length ≤ c ∧ Bi W A l ∧ l.length ≤ 9223372036854775807 ∧ ∀ f ∈ l, i64r f := by
  obtain ⟨a0, len0, cap0, rfl⟩ := okWide_slice Try.underlying22 hv
  obtain ⟨fuel, hf⟩ := h
  obtain ⟨u, l, e, ⟨A, c, hu, hc, hr⟩, hb, hw⟩ := bi_in hf
  simp [Value.cells] at e
  subst e
  exact ⟨A, c, l, hu, hc, hr, hb, hw⟩
theorem open_three (hv : Value.okWide Try.prog W .any base 29 v) (h : DataW.Trod enc Try.prog W b0 (fun _ => true) true 29 v d p) : ∃ (x y z : Int), v = .agg #[.int .i64 x, .int .i64 y, .int .i64 z] ∧ i64r x ∧ i64r y ∧ i64r z := by
  simp only [Value.okWide, Try.underlying29] at hv
  obtain ⟨cs, rfl, hsz, _⟩ := hv
  obtain ⟨l⟩ := cs
  rw [cells29] at hsz
  match l, hsz with
  | [c0, c1, c2], _ =>
    obtain ⟨fuel, hf⟩ := h
    obtain ⟨xs, m, _, hx, _, hlen, hg⟩ := DataW.trod_array Try.underlying29 hf
    match xs, hlen with
    | [y0, y1, y2], _ =>
      have g0 := hg 0 (by omega)
      have g1 := hg 1 (by omega)
      have g2 := hg 2 (by omega)
      simp only [cells3, Value.cells] at g0 g1 g2
      obtain ⟨a, e0, w0⟩ := int_in (show DataW.trod enc Try.prog W b0 (fun _ => true) true m 3 [c0] = some y0 by simpa using g0)
      obtain ⟨b, e1, w1⟩ := int_in (show DataW.trod enc Try.prog W b0 (fun _ => true) true m 3 [c1] = some y1 by simpa using g1)
      obtain ⟨c, e2, w2⟩ := int_in (show DataW.trod enc Try.prog W b0 (fun _ => true) true m 3 [c2] = some y2 by simpa using g2)
      subst e0 e1 e2
      exact ⟨a, b, c, rfl, w0, w1, w2⟩
end
end Go.Proofs.Ytflplldamefhoaa.Bd
