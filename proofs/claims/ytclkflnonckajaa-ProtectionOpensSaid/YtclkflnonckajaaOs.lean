import Derived.Test.YtclkflnonckajaaRow
/-
  DERIVED. How operations of a script lie in memory.
-/
namespace Go.Proofs.Ytclkflnonckajaa.Ac
open Go Go.RowKit
set_option linter.unusedVariables false
structure O3 where
  tk : Bool
  ac : Int
  n : Int
def o0 : O3 := ⟨false, 0, 0⟩
def oAt (L : List O3) (k : Nat) : O3 := L.getD k o0
def opC (o : O3) : List Value := [.bool o.tk, .int .i64 o.ac, .int .i64 o.n]
/-- a slice that reads as operations -/
def OpsR (w : World) (A : Option Addr) (L : List O3) : Prop := L ≠ [] → ∃ b off, A = some ⟨b, off, none⟩ ∧ b < w.heap.size ∧ ∀ k, k < L.length → ∀ j, j < 3 → w.cell? ⟨b, off + k * 3 + j, none⟩ = (opC (oAt L k))[j]?
theorem OpsR.cells {w w' : World} {A : Option Addr} {L : List O3} (h : OpsR w A L) (hb : Below w.heap.size w w') {k : Nat} (hk : k < L.length) : ∃ b off, A = some ⟨b, off, none⟩ ∧ b < w.heap.size ∧
    w'.cell? ⟨b, off + k * 3, none⟩ = some (.bool (oAt L k).tk) ∧ w'.cell? ⟨b, off + k * 3 + 1, none⟩ = some (.int .i64 (oAt L k).ac) ∧ w'.cell? ⟨b, off + k * 3 + 2, none⟩ = some (.int .i64 (oAt L k).n) := by
  obtain ⟨b, off, e, hl, hc⟩ := h (by rintro rfl; simp at hk)
  have c := fun j hj => (hb.cell (p := ⟨b, off + k * 3 + j, none⟩) hl).trans (hc k hk j hj)
  exact ⟨b, off, e, hl, c 0 (by omega), c 1 (by omega), c 2 (by omega)⟩
end Go.Proofs.Ytclkflnonckajaa.Ac
