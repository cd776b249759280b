import Derived.Test.YthoeolaleeogbaaPteDec
import Derived.Test.YthoeolaleeogbaaMath7
import Derived.Deep.OwnRows
import Derived.Laws.OwnMore
import Derived.Laws.Rows
import Derived.OwnWalk
namespace Go.Proofs.Ythoeolaleeogbaa.Tb
open Go Go.RowKit Go.Proofs.Ythoeolaleeogbaa.Pt
set_option linter.unusedVariables false
def teAt (L : List Te) (k : Nat) : Te := L.getD k (0, 0, 0)
def tv (e : Te) : Value := .agg #[.int .i64 e.1, .int .i64 e.2.1, .int .u64 e.2.2]
def tc (e : Te) : List Value := [.int .i64 e.1, .int .i64 e.2.1, .int .u64 e.2.2]
def tcs : List Te → List Value
  | [] => []
  | e :: l => .int .i64 e.1 :: .int .i64 e.2.1 :: .int .u64 e.2.2 :: tcs l
theorem tcs_length : ∀ L : List Te, (tcs L).length = L.length * 3
  | [] => rfl
  | e :: l => by simp only [tcs, List.length_cons, tcs_length l]; omega
theorem tcs_append : ∀ L M : List Te, tcs (L ++ M) = tcs L ++ tcs M
  | [], _ => rfl
  | e :: l, M => by simp only [tcs, List.cons_append, tcs_append l M]
theorem teAt_get {L : List Te} {k : Nat} (h : k < L.length) : teAt L k = L[k] := by
  unfold teAt
  rw [List.getD_eq_getElem?_getD, List.getElem?_eq_getElem h]; rfl
theorem tcs_at : ∀ {L : List Te} {k : Nat}, k < L.length → (tcs L)[k * 3]? = some (.int .i64 (teAt L k).1) ∧ (tcs L)[k * 3 + 1]? = some (.int .i64 (teAt L k).2.1) ∧ (tcs L)[k * 3 + 2]? = some (.int .u64 (teAt L k).2.2)
  | e :: l, 0, _ => ⟨rfl, rfl, rfl⟩
  | e :: l, k + 1, h => by
    have ih := tcs_at (L := l) (k := k) (by simpa using h)
    have e0 : teAt (e :: l) (k + 1) = teAt l k := rfl
    rw [e0, show (k + 1) * 3 = k * 3 + 3 by omega]
    exact ih
theorem tcs_one : ∀ L : List Te, ∀ u ∈ tcs L, u.oneCell' = true
  | [], u, h => by cases h
  | e :: l, u, h => by
    simp only [tcs, List.mem_cons] at h
    rcases h with rfl | rfl | rfl | h
    · rfl
    · rfl
    · rfl
    · exact tcs_one l u h
theorem take_snoc (L : List Te) {k : Nat} (h : k < L.length) : L.take (k + 1) = L.take k ++ [teAt L k] := by
  rw [List.take_succ_eq_append_getElem h, teAt_get h]
def inT (L : List Te) : Prop := ∀ e ∈ L, 0 ≤ e.2.2 ∧ e.2.2 < 18446744073709551616
theorem inT.at_ {L : List Te} (h : inT L) {k : Nat} (hk : k < L.length) : 0 ≤ (teAt L k).2.2 ∧ (teAt L k).2.2 < 18446744073709551616 := by
  rw [teAt_get hk]; exact h _ (List.getElem_mem hk)
theorem inT.filter {L : List Te} (h : inT L) (f : Te → Bool) : inT (L.filter f) := fun e he => h e ((List.mem_filter.1 he).1)
theorem teAt_mem {L : List Te} {k : Nat} (hk : k < L.length) : teAt L k ∈ L := by rw [teAt_get hk]; exact List.getElem_mem hk
/-- A slice that reads as a list of cached entries, nil let in. -/
def Ts (w : World) (A : Option Addr) (L : List Te) : Prop :=
  L ≠ [] → ∃ b off, A = some ⟨b, off, none⟩ ∧ b < w.heap.size ∧ ∀ k, k < L.length → w.cell? ⟨b, off + k * 3, none⟩ = some (.int .i64 (teAt L k).1) ∧ w.cell? ⟨b, off + k * 3 + 1, none⟩ = some (.int .i64 (teAt L k).2.1) ∧ w.cell? ⟨b, off + k * 3 + 2, none⟩ = some (.int .u64 (teAt L k).2.2)
theorem Ts.below {w w' : World} {A : Option Addr} {L : List Te} (h : Ts w A L) (hb : Below w.heap.size w w') : Ts w' A L := fun hn => by
  obtain ⟨b, off, e, hlt, hc⟩ := h hn
  exact ⟨b, off, e, Nat.lt_of_lt_of_le hlt hb.size, fun k hk => ⟨(hb.cell (p := ⟨b, _, none⟩) hlt).trans (hc k hk).1, (hb.cell (p := ⟨b, _, none⟩) hlt).trans (hc k hk).2.1, (hb.cell (p := ⟨b, _, none⟩) hlt).trans (hc k hk).2.2⟩⟩
theorem Ts.cells {w w' : World} {A : Option Addr} {L : List Te} (h : Ts w A L) (hb : Below w.heap.size w w') {k : Nat} (hk : k < L.length) : ∃ b off, A = some ⟨b, off, none⟩ ∧ b < w.heap.size ∧ ∀ k, k < L.length → w'.cell? ⟨b, off + k * 3, none⟩ = some (.int .i64 (teAt L k).1) ∧ w'.cell? ⟨b, off + k * 3 + 1, none⟩ = some (.int .i64 (teAt L k).2.1) ∧ w'.cell? ⟨b, off + k * 3 + 2, none⟩ = some (.int .u64 (teAt L k).2.2) := by
  obtain ⟨b, off, e, hl, hc⟩ := h (by rintro rfl; simp at hk)
  exact ⟨b, off, e, hl, fun k hk => ⟨(hb.cell (p := ⟨b, _, none⟩) hl).trans (hc k hk).1, (hb.cell (p := ⟨b, _, none⟩) hl).trans (hc k hk).2.1, (hb.cell (p := ⟨b, _, none⟩) hl).trans (hc k hk).2.2⟩⟩
theorem Ts.nil (w : World) (A : Option Addr) : Ts w A [] := fun h => absurd rfl h
/-- A slice of the call's own, from block base on, nil let in, whose first cells hold a list. -/
def MineT (base : Nat) (w : World) (A : Option Addr) (L : List Te) : Prop := L ≠ [] → ∃ (g : Nat) (cur : Array Value), A = some ⟨g, 0, none⟩ ∧ base ≤ g ∧ w.heap[g]? = some (.cells cur 47 (0, 0)) ∧ cur.toList.take (L.length * 3) = tcs L
theorem blk_lt {w : World} {g : Nat} {o : Obj} (hh : w.heap[g]? = some o) : g < w.heap.size := by
  rcases Nat.lt_or_ge g w.heap.size with h1 | h1
  · exact h1
  · rw [Array.getElem?_eq_none h1] at hh; cases hh
theorem MineT.ts {base : Nat} {w : World} {A : Option Addr} {L : List Te} (h : MineT base w A L) : Ts w A L := fun hn => by
  obtain ⟨g, cur, rfl, hg, hh, ht⟩ := h hn
  refine ⟨g, 0, rfl, blk_lt hh, fun k hk => ?_⟩
  have key : ∀ j u, j < L.length * 3 → (tcs L)[j]? = some u → w.cell? ⟨g, 0 + j, none⟩ = some u := fun j u hj hu => by
    rw [← ht, List.getElem?_take_of_lt hj] at hu
    have e2 : cur[j]? = some u := by simpa using hu
    rw [cell_of_row w g _ cur 47 (0, 0) hh, Nat.zero_add]; exact e2
  obtain ⟨a, b, c⟩ := tcs_at hk
  exact ⟨key _ _ (by omega) a, by have := key _ _ (by omega) b; rw [← Nat.add_assoc] at this; exact this, by have := key _ _ (by omega) c; rw [← Nat.add_assoc] at this; exact this⟩
theorem MineT.mono {B B' : Nat} {w : World} {A : Option Addr} {L : List Te} (h : MineT B w A L) (hB : B' ≤ B) : MineT B' w A L := fun hn => by
  obtain ⟨g, cur, e, hg, r⟩ := h hn
  exact ⟨g, cur, e, Nat.le_trans hB hg, r⟩
theorem MineT.below {B : Nat} {w w' : World} {A : Option Addr} {L : List Te} (h : MineT B w A L) (hb : Below w.heap.size w w') : MineT B w' A L := fun hn => by
  obtain ⟨g, cur, e, hg, hh, ht⟩ := h hn
  exact ⟨g, cur, e, hg, (hb.block g (blk_lt hh)).trans hh, ht⟩
theorem MineT.of_row {base n : Nat} {w : World} {A : Option Addr} {L : List Te} {c : Nat} (hn : n = L.length) (h : w.ownsRow base 47 3 (.slice A n c) n (tcs L)) : MineT base w A L := fun hne => by
  obtain ⟨hl, h | ⟨g, cap, cur, e, hg, hh, _, _, _, ht⟩⟩ := h
  · exfalso
    exact hne (List.eq_nil_of_length_eq_zero (by rw [← hn]; exact h.2))
  · have hA : A = some ⟨g, 0, none⟩ := by injection e
    exact ⟨g, cur, hA, hg, hh, by rw [← ht, hn]⟩
theorem row_form {w : World} {base n : Nat} {v : Value} {xs : List Value} (h : w.ownsRow base 47 3 v n xs) : ∃ A c, v = .slice A n c := by
  obtain ⟨_, ⟨rfl, rfl⟩ | ⟨g, cap, cur, rfl, _⟩⟩ := h
  · exact ⟨none, 0, rfl⟩
  · exact ⟨_, _, rfl⟩
theorem row_below {w w' : World} {base n B : Nat} {v : Value} {xs : List Value} (h : w.ownsRow base 47 3 v n xs) (hg : w.grownBy w' v.ownBlock) (hB : B ≤ base) (hs : B ≤ w.heap.size) : Below B w w' := by
  refine ⟨hg.os, hg.tape, hg.output, hg.size, fun k hk => hg.block k (by omega) ?_⟩
  obtain ⟨_, ⟨rfl, rfl⟩ | ⟨g, cap, cur, rfl, hgb, _⟩⟩ := h
  · exact Option.some_ne_none _
  · intro e
    have : k = g := by simpa [Value.ownBlock] using e
    omega
theorem info47 : (Try.prog.info? 47).map (fun i => (i.zero, i.size, i.bytes)) = some (some (.agg #[.int .i64 0, .int .i64 0, .int .u64 0]), 3, 24) := by kernel_rfl
/-- an entry in a box of its own -/
def Box (w : World) (g : Nat) (t : TypeId) (cs : Array Value) : Prop := w.heap[g]? = some (.cells cs t (0, 0))
section
variable {w w' : World} {g : Nat} {t : TypeId} {cs : Array Value}
theorem Box.new (w : World) (t : TypeId) (cs : Array Value) : Box (w.alloc (.cells cs t)) w.heap.size t cs := heap_alloc_new w _
theorem Box.lt (h : Box w g t cs) : g < w.heap.size := blk_lt h
theorem Box.cell (h : Box w g t cs) (i : Nat) : w.cell? ⟨g, i, none⟩ = cs[i]? := cell_of_row w g i cs t (0, 0) h
theorem Box.frozen (h : Box w g t cs) (i : Nat) : w.frozen? ⟨g, i, none⟩ = false := by
  unfold Box at h
  simp [World.frozen?, h]
theorem Box.below (h : Box w g t cs) (hb : Below w.heap.size w w') : Box w' g t cs := (hb.block g (blk_lt h)).trans h
theorem Box.put (h : Box w g t cs) (i : Nat) (u : Value) : Box (w.setCell ⟨g, i, none⟩ u) g t (cs.setIfInBounds i u) := by
  unfold Box at h ⊢
  simp [World.setCell, Array.getElem?_modify, h]
end
end Go.Proofs.Ythoeolaleeogbaa.Tb
