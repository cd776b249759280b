import Derived.Test.YtacehgcgkpolhaaFrame
import Derived.Test.YtacehgcgkpolhaaJn0
namespace Go.Proofs.Ytacehgcgkpolhaa.Pt
open Go.ChangeShapes Go.WideShapes Go.ChangeAt Go.RowKit Go.Joins Go.Deep
set_option linter.unusedVariables false
theorem cells37 : Try.prog.cellsOf 37 = 8 := by kernel_rfl
theorem cells24 : Try.prog.cellsOf 24 = 1 := by kernel_rfl
theorem words_of {c0 c1 c2 c3 c4 c5 c6 c7 : Int} (h0 : 0 ≤ c0 ∧ c0 ≤ 18446744073709551615) (h1 : 0 ≤ c1 ∧ c1 ≤ 18446744073709551615) (h2 : 0 ≤ c2 ∧ c2 ≤ 18446744073709551615) (h3 : 0 ≤ c3 ∧ c3 ≤ 18446744073709551615)
    (h4 : 0 ≤ c4 ∧ c4 ≤ 18446744073709551615) (h5 : 0 ≤ c5 ∧ c5 ≤ 18446744073709551615) (h6 : 0 ≤ c6 ∧ c6 ≤ 18446744073709551615) (h7 : 0 ≤ c7 ∧ c7 ≤ 18446744073709551615) :
    ∃ a : Nat → Int, (#[.int .u64 c0, .int .u64 c1, .int .u64 c2, .int .u64 c3, .int .u64 c4, .int .u64 c5, .int .u64 c6, .int .u64 c7] : Array Value) = wdCells a ∧ In64 a := by
  refine ⟨fun k => [c0, c1, c2, c3, c4, c5, c6, c7].getD k 0, rfl, fun k hk => ?_⟩
  rcases (by omega : k = 0 ∨ k = 1 ∨ k = 2 ∨ k = 3 ∨ k = 4 ∨ k = 5 ∨ k = 6 ∨ k = 7) with rfl | rfl | rfl | rfl | rfl | rfl | rfl | rfl
  · show 0 ≤ c0 ∧ c0 < 18446744073709551616; omega
  · show 0 ≤ c1 ∧ c1 < 18446744073709551616; omega
  · show 0 ≤ c2 ∧ c2 < 18446744073709551616; omega
  · show 0 ≤ c3 ∧ c3 < 18446744073709551616; omega
  · show 0 ≤ c4 ∧ c4 < 18446744073709551616; omega
  · show 0 ≤ c5 ∧ c5 < 18446744073709551616; omega
  · show 0 ≤ c6 ∧ c6 < 18446744073709551616; omega
  · show 0 ≤ c7 ∧ c7 < 18446744073709551616; omega
/-- EIGHT WORDS THAT CAME IN (an array), opened. -/
theorem open_words {H : Type} {enc : TypeId × Value → H} {W : World} {base b0 : Nat} {v : Value} {d : DataW H} {p : List MemPlace} (hv : Value.okWide Try.prog W .any base 37 v)
    (h : DataW.Trod enc Try.prog W b0 (fun _ => true) true 37 v d p) : ∃ a : Nat → Int, v = .agg (wdCells a) ∧ In64 a := by
  simp only [Value.okWide, Try.underlying37] at hv
  obtain ⟨cs, rfl, hsz, _⟩ := hv
  obtain ⟨l⟩ := cs
  rw [cells37] at hsz
  match l, hsz with
  | [c0, c1, c2, c3, c4, c5, c6, c7], _ =>
    obtain ⟨fuel, hf⟩ := h
    obtain ⟨xs, m, _, hx, _, hlen, hg⟩ := DataW.trod_array Try.underlying37 hf
    match xs, hlen with
    | [y0, y1, y2, y3, y4, y5, y6, y7], _ =>
      have g0 := hg 0 (by omega)
      have g1 := hg 1 (by omega)
      have g2 := hg 2 (by omega)
      have g3 := hg 3 (by omega)
      have g4 := hg 4 (by omega)
      have g5 := hg 5 (by omega)
      have g6 := hg 6 (by omega)
      have g7 := hg 7 (by omega)
      simp only [cells24, Value.cells] at g0 g1 g2 g3 g4 g5 g6 g7
      obtain ⟨a0, e0, _, w0⟩ := DataW.trod_int Try.underlying24 (show DataW.trod _ Try.prog W _ _ _ m 24 [c0] = some y0 by simpa using g0)
      obtain ⟨a1, e1, _, w1⟩ := DataW.trod_int Try.underlying24 (show DataW.trod _ Try.prog W _ _ _ m 24 [c1] = some y1 by simpa using g1)
      obtain ⟨a2, e2, _, w2⟩ := DataW.trod_int Try.underlying24 (show DataW.trod _ Try.prog W _ _ _ m 24 [c2] = some y2 by simpa using g2)
      obtain ⟨a3, e3, _, w3⟩ := DataW.trod_int Try.underlying24 (show DataW.trod _ Try.prog W _ _ _ m 24 [c3] = some y3 by simpa using g3)
      obtain ⟨a4, e4, _, w4⟩ := DataW.trod_int Try.underlying24 (show DataW.trod _ Try.prog W _ _ _ m 24 [c4] = some y4 by simpa using g4)
      obtain ⟨a5, e5, _, w5⟩ := DataW.trod_int Try.underlying24 (show DataW.trod _ Try.prog W _ _ _ m 24 [c5] = some y5 by simpa using g5)
      obtain ⟨a6, e6, _, w6⟩ := DataW.trod_int Try.underlying24 (show DataW.trod _ Try.prog W _ _ _ m 24 [c6] = some y6 by simpa using g6)
      obtain ⟨a7, e7, _, w7⟩ := DataW.trod_int Try.underlying24 (show DataW.trod _ Try.prog W _ _ _ m 24 [c7] = some y7 by simpa using g7)
      simp only [List.cons.injEq, and_true] at e0 e1 e2 e3 e4 e5 e6 e7
      subst e0 e1 e2 e3 e4 e5 e6 e7
      obtain ⟨a, ha, hi⟩ := words_of (bounds_u64 w0) (bounds_u64 w1) (bounds_u64 w2) (bounds_u64 w3) (bounds_u64 w4) (bounds_u64 w5) (bounds_u64 w6) (bounds_u64 w7)
      exact ⟨a, by rw [← ha], hi⟩
end Go.Proofs.Ytacehgcgkpolhaa.Pt
