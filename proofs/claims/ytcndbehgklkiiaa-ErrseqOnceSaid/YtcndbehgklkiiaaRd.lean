import Derived.Test.YtcndbehgklkiiaaMem
namespace Go.Proofs.Ytcndbehgklkiiaa.Es
open Go Go.RowKit
def encOp (o : Int × Int) : List Value := [.int .i64 o.1, .int .i64 o.2]
def okOp (o : Int × Int) : Prop := i64r o.1 ∧ i64r o.2
def RdOp (w : World) (A : Option Addr) (L : List (Int × Int)) : Prop := L ≠ [] → ∃ b off, A = some ⟨b, off, none⟩ ∧ b < w.heap.size ∧ ∀ k, k < L.length → ∀ j, j < 2 → w.cell? ⟨b, off + (k * 2 + j), none⟩ = (encOp (L.getD k (0, 0)))[j]?
def encSk (o : Int × Int × Bool × Int) : List Value := [.int .u8 o.1, .int .u8 o.2.1, .bool o.2.2.1, .int .i64 o.2.2.2]
def okSk (o : Int × Int × Bool × Int) : Prop := (0 ≤ o.1 ∧ o.1 < 256) ∧ (0 ≤ o.2.1 ∧ o.2.1 < 256) ∧ i64r o.2.2.2
def RdSk (w : World) (A : Option Addr) (L : List (Int × Int × Bool × Int)) : Prop := L ≠ [] → ∃ b off, A = some ⟨b, off, none⟩ ∧ b < w.heap.size ∧ ∀ k, k < L.length → ∀ j, j < 4 → w.cell? ⟨b, off + (k * 4 + j), none⟩ = (encSk (L.getD k (0, 0, false, 0)))[j]?
end Go.Proofs.Ytcndbehgklkiiaa.Es
