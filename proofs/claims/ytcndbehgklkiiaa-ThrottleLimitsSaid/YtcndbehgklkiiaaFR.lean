import Derived.Test.YtcndbehgklkiiaaT3
namespace Go.Proofs.Ytcndbehgklkiiaa.Ac
open Go Go.RowKit
def encAx (o : Int × Int × Int × Int × Int) : List Value := [.int .i64 o.1, .int .i64 o.2.1, .int .i64 o.2.2.1, .int .i64 o.2.2.2.1, .int .i64 o.2.2.2.2]
def okAx (o : Int × Int × Int × Int × Int) : Prop := i64r o.1 ∧ i64r o.2.1 ∧ i64r o.2.2.1 ∧ i64r o.2.2.2.1 ∧ i64r o.2.2.2.2
def RdAx (w : World) (A : Option Addr) (L : List (Int × Int × Int × Int × Int)) : Prop := L ≠ [] → ∃ b off, A = some ⟨b, off, none⟩ ∧ b < w.heap.size ∧ ∀ k, k < L.length → ∀ j, j < 5 → w.cell? ⟨b, off + (k * 5 + j), none⟩ = (encAx (L.getD k (0, 0, 0, 0, 0)))[j]?
def toA (o : Int × Int × Int × Int × Int) : A5 := ⟨o.1, o.2.1, o.2.2.1, o.2.2.2.1, o.2.2.2.2⟩
theorem RdAx.as {w : World} {A : Option Addr} {L : List (Int × Int × Int × Int × Int)} (h : RdAx w A L) : As w A (L.map toA) := fun hn => by
  obtain ⟨b, off, e, hl, hc⟩ := h (by rintro rfl; exact hn rfl)
  refine ⟨b, off, e, hl, fun k hk j hj => ?_⟩
  rw [List.length_map] at hk
  have := hc k hk j hj
  rw [show off + k * 5 + j = off + (k * 5 + j) by omega, this]
  have e2 : aAt (L.map toA) k = toA (L.getD k (0, 0, 0, 0, 0)) := by
    unfold aAt
    rw [List.getD_eq_getElem?_getD, List.getD_eq_getElem?_getD, List.getElem?_map, List.getElem?_eq_getElem hk]; rfl
  rw [e2]; rfl
/-- bytes to be read -/
def Bu (w : World) (A : Option Addr) (l : List Int) : Prop := l ≠ [] → ∃ b off, A = some ⟨b, off, none⟩ ∧ b < w.heap.size ∧ ∀ k, k < l.length → w.cell? ⟨b, off + k, none⟩ = some (.int .u8 (l.getD k 0))
theorem Bu.below {w w' : World} {A : Option Addr} {l : List Int} (h : Bu w A l) (hb : Below w.heap.size w w') : Bu w' A l := fun hn => by
  obtain ⟨b, off, e, hl, hc⟩ := h hn
  exact ⟨b, off, e, Nat.lt_of_lt_of_le hl hb.size, fun k hk => (hb.cell (p := ⟨b, _, none⟩) hl).trans (hc k hk)⟩
end Go.Proofs.Ytcndbehgklkiiaa.Ac
