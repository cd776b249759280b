import Derived.Test.YtoogdggiemacjaaMem3
namespace Go.Proofs.Ytoogdggiemacjaa.Cw
open Go Go.RowKit
set_option linter.unusedVariables false
set_option linter.unusedSimpArgs false
def encOp (o : Int × Int × Int × Int) : List Value := [.int .i64 o.1, .int .i64 o.2.1, .int .i64 o.2.2.1, .int .i64 o.2.2.2]
def okOp (o : Int × Int × Int × Int) : Prop := i64r o.1 ∧ i64r o.2.1 ∧ i64r o.2.2.1 ∧ i64r o.2.2.2
def RdOp (w : World) (A : Option Addr) (L : List (Int × Int × Int × Int)) : Prop := L ≠ [] → ∃ b off, A = some ⟨b, off, none⟩ ∧ b < w.heap.size ∧ ∀ k, k < L.length → ∀ j, j < 4 → w.cell? ⟨b, off + (k * 4 + j), none⟩ = (encOp (L.getD k (0, 0, 0, 0)))[j]?
def opA (L : List (Int × Int × Int × Int)) (k : Nat) : Int × Int × Int × Int := L.getD k (0, 0, 0, 0)
theorem RdOp.cells {w w' : World} {A : Option Addr} {L : List (Int × Int × Int × Int)} (h : RdOp w A L) (hb : Below w.heap.size w w') {k : Nat} (hk : k < L.length) : ∃ b off, A = some ⟨b, off, none⟩ ∧ b < w.heap.size ∧
    w'.cell? ⟨b, off + k * 4, none⟩ = some (.int .i64 (opA L k).1) ∧ w'.cell? ⟨b, off + k * 4 + 1, none⟩ = some (.int .i64 (opA L k).2.1) ∧ w'.cell? ⟨b, off + k * 4 + 2, none⟩ = some (.int .i64 (opA L k).2.2.1) ∧ w'.cell? ⟨b, off + k * 4 + 3, none⟩ = some (.int .i64 (opA L k).2.2.2) := by
  obtain ⟨b, off, e, hl, hc⟩ := h (by rintro rfl; simp at hk)
  have c := fun j hj => (hb.cell (p := ⟨b, off + (k * 4 + j), none⟩) hl).trans (hc k hk j hj)
  exact ⟨b, off, e, hl, c 0 (by omega), c 1 (by omega), c 2 (by omega), c 3 (by omega)⟩
theorem RdOp.below {w w' : World} {A : Option Addr} {L : List (Int × Int × Int × Int)} (h : RdOp w A L) (hb : Below w.heap.size w w') : RdOp w' A L := fun hn => by
  obtain ⟨b, off, e, hlt, hc⟩ := h hn
  exact ⟨b, off, e, Nat.lt_of_lt_of_le hlt hb.size, fun k hk j hj => (hb.cell (p := ⟨b, _, none⟩) hlt).trans (hc k hk j hj)⟩
end Go.Proofs.Ytoogdggiemacjaa.Cw
