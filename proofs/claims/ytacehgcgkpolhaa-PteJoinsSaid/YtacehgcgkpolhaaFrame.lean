import Derived.Test.YtacehgcgkpolhaaInv
import Derived.ProofKit
import Derived.OpenShut
import Derived.Deep.DeepHandedRow
import Derived.Lib.SmallJoins
import Derived.Carry
namespace Go.Proofs.Ytacehgcgkpolhaa.Pt
open Go.ChangeShapes Go.WideShapes Go.ChangeAt Go.RowKit Go.Joins Go.Deep
set_option linter.unusedVariables false
theorem ownKnobNone : ownKnob Try.prog.godebug = none := by kernel_rfl
theorem laidOut : laidOutB Try.prog = true := by kernel_rfl
theorem cells23 : Try.prog.cellsOf 23 = 6 := by kernel_rfl
theorem cells3 : Try.prog.cellsOf 3 = 1 := by kernel_rfl
theorem cells4 : Try.prog.cellsOf 4 = 1 := by kernel_rfl
/-- AN ENTRY THAT CAME IN, opened. -/
theorem open_entry {H : Type} {enc : TypeId × Value → H} {W : World} {base b0 : Nat} {v : Value} {d : DataW H} {p : List MemPlace} (hv : Value.okWide Try.prog W .any base 23 v)
    (h : DataW.Trod enc Try.prog W b0 (fun _ => true) true 23 v d p) : ∃ (k n : Int) (wr ac di hu : Bool), v = .agg #[.int .i64 k, .int .i64 n, .bool wr, .bool ac, .bool di, .bool hu] := by
  obtain ⟨cs, rfl, hsz⟩ := okWide_struct Try.underlying23 hv
  obtain ⟨l⟩ := cs
  rw [cells23] at hsz
  obtain ⟨fuel, hf⟩ := h
  match l, hsz with
  | [c0, c1, c2, c3, c4, c5], _ =>
    obtain ⟨xs, m, _, _, _, hlen, hg⟩ := DataW.trod_struct Try.underlying23 hf
    match xs, hlen with
    | [y0, y1, y2, y3, y4, y5], _ =>
      have g0 := hg 0 _ rfl
      have g1 := hg 1 _ rfl
      have g2 := hg 2 _ rfl
      have g3 := hg 3 _ rfl
      have g4 := hg 4 _ rfl
      have g5 := hg 5 _ rfl
      obtain ⟨k, e0, _, _⟩ := DataW.trod_int Try.underlying3 (show DataW.trod _ Try.prog W _ _ _ m 3 [c0] = some y0 by simpa [Value.cells, cells3] using g0)
      obtain ⟨n, e1, _, _⟩ := DataW.trod_int Try.underlying3 (show DataW.trod _ Try.prog W _ _ _ m 3 [c1] = some y1 by simpa [Value.cells, cells3] using g1)
      obtain ⟨wr, e2, _⟩ := DataW.trod_bool Try.underlying4 (show DataW.trod _ Try.prog W _ _ _ m 4 [c2] = some y2 by simpa [Value.cells, cells4] using g2)
      obtain ⟨ac, e3, _⟩ := DataW.trod_bool Try.underlying4 (show DataW.trod _ Try.prog W _ _ _ m 4 [c3] = some y3 by simpa [Value.cells, cells4] using g3)
      obtain ⟨di, e4, _⟩ := DataW.trod_bool Try.underlying4 (show DataW.trod _ Try.prog W _ _ _ m 4 [c4] = some y4 by simpa [Value.cells, cells4] using g4)
      obtain ⟨hu, e5, _⟩ := DataW.trod_bool Try.underlying4 (show DataW.trod _ Try.prog W _ _ _ m 4 [c5] = some y5 by simpa [Value.cells, cells4] using g5)
      simp only [List.cons.injEq, and_true] at e0 e1 e2 e3 e4 e5
      subst e0 e1 e2 e3 e4 e5
      exact ⟨k, n, wr, ac, di, hu, rfl⟩
end Go.Proofs.Ytacehgcgkpolhaa.Pt
