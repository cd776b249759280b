import Derived.Test.YtimclgmajhhheaaFrameH
namespace Go.Proofs.Ytimclgmajhhheaa.Gr
open Go.ChangeShapes Go.WideShapes Go.ChangeAt Go.RowKit Go.Joins Go.Deep Ac
set_option linter.unusedVariables false
set_option maxRecDepth 100000
theorem cells51 : Try.prog.cellsOf 51 = 1 := by kernel_rfl
theorem cells52 : Try.prog.cellsOf 52 = 4 := by kernel_rfl
theorem wf_u16 {x : Int} (h : (Lit.int .u16 x).wf = true) : 0 ≤ x ∧ x ≤ 65535 := by
  unfold Lit.wf at h
  simp only [Bool.and_eq_true, IntKind.min, IntKind.max, IntKind.signed, IntKind.bits] at h
  simp at h
  omega
section
variable {H : Type} {enc : TypeId × Value → H} {W : World} {base b0 : Nat} {v : Value} {d : DataW H} {p : List MemPlace}
theorem u16_in {n : Nat} {c : Value} {x : DataW H × List MemPlace} (h : DataW.trod enc Try.prog W b0 (fun _ => true) true n 51 [c] = some x) : ∃ z, c = .int .u16 z ∧ 0 ≤ z ∧ z ≤ 65535 := by
  obtain ⟨z, e, _, w⟩ := DataW.trod_int Try.underlying51 (show DataW.trod _ Try.prog W _ _ _ n 51 [c] = some x from h)
  simp only [List.cons.injEq, and_true] at e
  exact ⟨z, e, wf_u16 w⟩
theorem open_four (hv : Value.okWide Try.prog W .any base 52 v) (h : DataW.Trod enc Try.prog W b0 (fun _ => true) true 52 v d p) : ∃ (f0 f1 f2 f3 : Int), v = .agg #[.int .u16 f0, .int .u16 f1, .int .u16 f2, .int .u16 f3] ∧ (0 ≤ f0 ∧ f0 ≤ 65535) ∧ (0 ≤ f1 ∧ f1 ≤ 65535) ∧ (0 ≤ f2 ∧ f2 ≤ 65535) ∧ (0 ≤ f3 ∧ f3 ≤ 65535) := by
  simp only [Value.okWide, Try.underlying52] at hv
  obtain ⟨cs, rfl, hsz, _⟩ := hv
  obtain ⟨l⟩ := cs
  rw [cells52] at hsz
  match l, hsz with
  | [c0, c1, c2, c3], _ =>
    obtain ⟨fuel, hf⟩ := h
    obtain ⟨xs, m, _, hx, _, hlen, hg⟩ := DataW.trod_array Try.underlying52 hf
    match xs, hlen with
    | [y0, y1, y2, y3], _ =>
      have g0 := hg 0 (by omega)
      have g1 := hg 1 (by omega)
      have g2 := hg 2 (by omega)
      have g3 := hg 3 (by omega)
      simp only [cells51, Value.cells] at g0 g1 g2 g3
      obtain ⟨a, e0, w0⟩ := u16_in (show DataW.trod enc Try.prog W b0 (fun _ => true) true m 51 [c0] = some y0 by simpa using g0)
      obtain ⟨b, e1, w1⟩ := u16_in (show DataW.trod enc Try.prog W b0 (fun _ => true) true m 51 [c1] = some y1 by simpa using g1)
      obtain ⟨c, e2, w2⟩ := u16_in (show DataW.trod enc Try.prog W b0 (fun _ => true) true m 51 [c2] = some y2 by simpa using g2)
      obtain ⟨d', e3, w3⟩ := u16_in (show DataW.trod enc Try.prog W b0 (fun _ => true) true m 51 [c3] = some y3 by simpa using g3)
      subst e0 e1 e2 e3
      exact ⟨a, b, c, d', rfl, w0, w1, w2, w3⟩
end
end Go.Proofs.Ytimclgmajhhheaa.Gr
