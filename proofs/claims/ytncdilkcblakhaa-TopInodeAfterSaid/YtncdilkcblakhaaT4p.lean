import Derived.Test.YtncdilkcblakhaaT4n
import Derived.Test.YtncdilkcblakhaaT3a
namespace Go.Proofs.Ytncdilkcblakhaa.In
open Go Go.RowKit
set_option linter.unusedVariables false
theorem put5_far {w : World} {g h : Nat} {t : TypeId} {cs : Array Value} (hX : Box w g t cs) (hne : g ≠ h) (x0 x1 x2 x3 x4 : Value) : Box (put5 w h x0 x1 x2 x3 x4) g t cs := by
  unfold put5
  exact ((((hX.far hne x0).far hne x1).far hne x2).far hne x3).far hne x4
theorem put5_below {w w0 : World} {B g : Nat} (hb : Below B w0 w) (hg : B ≤ g) (x0 x1 x2 x3 x4 : Value) : Below B w0 (put5 w g x0 x1 x2 x3 x4) := by
  unfold put5
  exact ((((hb.setCell (p := ⟨g, 0, none⟩) hg x0).setCell (p := ⟨g, 1, none⟩) hg x1).setCell (p := ⟨g, 2, none⟩) hg x2).setCell (p := ⟨g, 3, none⟩) hg x3).setCell (p := ⟨g, 4, none⟩) hg x4
theorem vdB {D : Dv.Dev} (v : Dv.Vd D) : Dv.Big D := by
  have S := Dv.sm_ok (Dv.chk_of v)
  exact ⟨by have := S.bl; omega, by have := S.ca; omega, by have := S.qu; omega, fun b hb => by have := S.bb b hb; omega, fun b hb => by have := S.cb b hb; omega, fun b hb => by have := S.qb b hb; omega⟩
end Go.Proofs.Ytncdilkcblakhaa.In
