import Derived.Test.YtdpdlbonlpdkjabRead2
namespace Go.Proofs.Ytdpdlbonlpdkjab.Iv
open Go Go.RowKit
set_option linter.unusedVariables false
def ic (x : Int) : Value := .int .i64 x
/-- A slice of the call's own, nil let in, whose first cells hold a list of intervals. -/
def MineI (base : Nat) (w : World) (A : Option Addr) (L : IL) : Prop := L ≠ [] → ∃ (g : Nat) (cur : Array Value), A = some ⟨g, 0, none⟩ ∧ base ≤ g ∧ w.heap[g]? = some (.cells cur 30 (0, 0)) ∧ cur.toList.take (2 * L.length) = (edges L).map ic
theorem MineI.iv {base : Nat} {w : World} {A : Option Addr} {L : IL} (h : MineI base w A L) : Iv w A L := fun hn => by
  obtain ⟨g, cur, rfl, hg, hh, ht⟩ := h hn
  refine ⟨g, 0, rfl, ?_, fun k hk => ?_⟩
  · rcases Nat.lt_or_ge g w.heap.size with h1 | h1
    · exact h1
    · rw [Array.getElem?_eq_none h1] at hh; cases hh
  · have hl := edges_length L
    have key : ∀ j, j < 2 * L.length → w.cell? ⟨g, 0 + j, none⟩ = some (.int .i64 ((edges L).getD j 0)) := fun j hj => by
      have e : (cur.toList.take (2 * L.length))[j]? = ((edges L).map ic)[j]? := by rw [ht]
      rw [List.getElem?_take_of_lt hj, List.getElem?_map, List.getElem?_eq_getElem (show j < (edges L).length by omega)] at e
      have e2 : cur[j]? = some (ic ((edges L)[j]'(by omega))) := by simpa using e
      simp only [World.cell?, hh, Nat.zero_add, e2]
      simp [ic, List.getD_eq_getElem?_getD, List.getElem?_eq_getElem (show j < (edges L).length by omega)]
    have a := key (2 * k) (by omega)
    have b := key (2 * k + 1) (by omega)
    rw [edges_even] at a
    rw [edges_odd] at b
    rw [show 0 + k * 2 = 0 + 2 * k by omega, show 0 + 2 * k + 1 = 0 + (2 * k + 1) by omega]
    exact ⟨a, b⟩
theorem MineI.of_row {base n : Nat} {w : World} {A : Option Addr} {L : IL} {c : Nat} (hn : n = L.length) (h : w.ownsRow base 30 2 (.slice A n c) n ((edges L).map ic)) : MineI base w A L := fun hne => by
  obtain ⟨hl, h | ⟨g, cap, cur, e, hg, hh, _, _, _, ht⟩⟩ := h
  · exfalso
    exact hne (List.eq_nil_of_length_eq_zero (by rw [← hn]; exact h.2))
  · have hA : A = some ⟨g, 0, none⟩ := by injection e
    exact ⟨g, cur, hA, hg, hh, by rw [← ht, hn, Nat.mul_comm]⟩
theorem info30 : (Try.prog.info? 30).map (fun i => (i.zero, i.size, i.bytes)) = some (some (.agg #[.int .i64 0, .int .i64 0]), 2, 16) := by kernel_rfl
theorem row_form {w : World} {base n : Nat} {v : Value} {xs : List Value} (h : w.ownsRow base 30 2 v n xs) : ∃ A c, v = .slice A n c := by
  obtain ⟨_, ⟨rfl, rfl⟩ | ⟨g, cap, cur, rfl, _⟩⟩ := h
  · exact ⟨none, 0, rfl⟩
  · exact ⟨_, _, rfl⟩
theorem row_below {w w' : World} {base n B : Nat} {v : Value} {xs : List Value} (h : w.ownsRow base 30 2 v n xs) (hg : w.grownBy w' v.ownBlock) (hB : B ≤ base) (hs : B ≤ w.heap.size) : Below B w w' := by
  refine ⟨hg.os, hg.tape, hg.output, hg.size, fun k hk => hg.block k (by omega) ?_⟩
  obtain ⟨_, ⟨rfl, rfl⟩ | ⟨g, cap, cur, rfl, hgb, _⟩⟩ := h
  · exact Option.some_ne_none _
  · intro e
    have : k = g := by simpa [Value.ownBlock] using e
    omega
theorem rem2 (i : Nat) : (((i : Int) % 2) == 1) = odd i := by
  unfold odd
  rw [Bool.eq_iff_iff, beq_iff_eq, beq_iff_eq]
  omega
theorem cell_two_new (w : World) (x y : Value) (t : TypeId) : ∀ j u, [x, y][j]? = some u → (w.alloc (.cells #[x, y] t)).cell? ((⟨w.heap.size, 0, none⟩ : Addr).add j) = some u := by
  intro j u h
  match j, h with
  | 0, h => simp at h; subst h; simp [go_sem, Addr.add]
  | 1, h => simp at h; subst h; simp [go_sem, Addr.add]
end Go.Proofs.Ytdpdlbonlpdkjab.Iv
