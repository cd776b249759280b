import Derived.Test.YtnegigcjeoenmaaCo2
import Derived.Deep.DeepCutAuto
namespace Go.Proofs.Ytnegigcjeoenmaa.Dv
open Go Go.RowKit
set_option linter.unusedVariables false
/-- all but one block is as it was -/
structure KpB (hh : Nat) (w w' : World) : Prop where
  size : w.heap.size ≤ w'.heap.size
  keep : ∀ k, k < w.heap.size → k ≠ hh → w'.heap[k]? = w.heap[k]?
section
variable {hh : Nat} {w w' w2 : World}
theorem KpB.trans (h : KpB hh w w') (h2 : KpB hh w' w2) : KpB hh w w2 := ⟨Nat.le_trans h.size h2.size, fun k hk hn => (h2.keep k (Nat.lt_of_lt_of_le hk h.size) hn).trans (h.keep k hk hn)⟩
theorem KpB.set (w : World) (hh i : Nat) (u : Value) : KpB hh w (w.setCell ⟨hh, i, none⟩ u) := ⟨by simp [World.setCell], fun k hk hn => heap_setCell_other w ⟨hh, i, none⟩ k u hn⟩
theorem KpB.set4 (w : World) (hh : Nat) (x0 x1 x2 x3 : Value) : KpB hh w ((((w.setCell ⟨hh, 0, none⟩ x0).setCell ⟨hh, 1, none⟩ x1).setCell ⟨hh, 2, none⟩ x2).setCell ⟨hh, 3, none⟩ x3) := (((KpB.set w hh 0 x0).trans (KpB.set _ hh 1 x1)).trans (KpB.set _ hh 2 x2)).trans (KpB.set _ hh 3 x3)
theorem KpB.of_grown {g : Nat} (h : w.grownBy w' (some g)) : KpB g w w' := ⟨h.size, fun k hk hn => h.block k hk (fun e => hn (by injection e))⟩
theorem Box.kb {k : Nat} {t : TypeId} {cs : Array Value} (h : Box w k t cs) (hk : KpB hh w w') (hne : k ≠ hh) : Box w' k t cs := (hk.keep k h.lt hne).trans h
theorem row_kb {base n size : Nat} {t : TypeId} {v : Value} {xs : List Value} (h : w.ownsRow base t size v n xs) (hk : KpB hh w w') (hne : some hh ≠ v.ownBlock) : w'.ownsRow base t size v n xs := by
  obtain ⟨hl, h | ⟨g, cap, cur, e, hg, hx, r⟩⟩ := h
  · exact ⟨hl, .inl h⟩
  · exact ⟨hl, .inr ⟨g, cap, cur, e, hg, Box.kb (t := t) hx hk (fun e2 => hne (by subst e; rw [e2]; rfl)), r⟩⟩
theorem OwnBy.kb {v : Value} {l : By} {t : TypeId} {cs : Array Value} (h : OwnBy w v l) (hk : KpB hh w w') (hX : Box w hh t cs) (ht : t ≠ 5) : OwnBy w' v l := by
  obtain ⟨A, c, e, hc, h⟩ := h
  refine ⟨A, c, e, hc, fun hn => ?_⟩
  obtain ⟨b, off, cur, e, hx, hy⟩ := h hn
  have hbg : b ≠ hh := by
    rintro rfl
    have : Box w b 5 cur := hx
    exact absurd rfl (this.ne hX (fun e => ht e.symm))
  exact ⟨b, off, cur, e, Box.kb (t := 5) hx hk hbg, hy⟩
theorem OwnB.kb {B : Nat} {v : Value} {L : List By} {t : TypeId} {cs : Array Value} (h : OwnB B w v L) (hk : KpB hh w w') (hX : Box w hh t cs) (ht : t ≠ 5) (ht2 : t ≠ 35) : OwnB B w' v L := by
  obtain ⟨R, e, hr, ho⟩ := h
  exact ⟨R, e, row_kb hr hk (row_own_box hr hX ht2), fun r hm => (ho r hm).kb hk hX ht⟩
theorem OwnC.kb {B : Nat} {v : Value} {L : List Ca} {t : TypeId} {cs : Array Value} (h : OwnC B w v L) (hk : KpB hh w w') (hX : Box w hh t cs) (ht : t ≠ 5) (ht2 : t ≠ 64) : OwnC B w' v L := by
  obtain ⟨R, e, hr, ho⟩ := h
  exact ⟨R, e, row_kb hr hk (row_own_box hr hX ht2), fun r hm => (ho r hm).kb hk hX ht⟩
theorem OwnQ.kb {B : Nat} {v : Value} {L : List Rq} {t : TypeId} {cs : Array Value} (h : OwnQ B w v L) (hk : KpB hh w w') (hX : Box w hh t cs) (ht : t ≠ 5) (hne : some hh ≠ v.ownBlock) : OwnQ B w' v L := by
  obtain ⟨R, e, hr, ho⟩ := h
  exact ⟨R, e, row_kb hr hk hne, fun r hm => (ho r hm).kb hk hX ht⟩
theorem below_set4 {B : Nat} {w0 : World} {x0 x1 x2 x3 : Value} (h : Below B w0 w) (hB : B ≤ hh) : Below B w0 ((((w.setCell ⟨hh, 0, none⟩ x0).setCell ⟨hh, 1, none⟩ x1).setCell ⟨hh, 2, none⟩ x2).setCell ⟨hh, 3, none⟩ x3) :=
  (((h.setCell hB x0).setCell hB x1).setCell hB x2).setCell hB x3
end
theorem box4_cells {W : World} {g : Nat} {t : TypeId} {x0 x1 x2 x3 : Value} (h : Box W g t #[x0, x1, x2, x3]) : W.cell? ⟨g, 0, none⟩ = some x0 ∧ W.cell? ⟨g, 1, none⟩ = some x1 ∧ W.cell? ⟨g, 2, none⟩ = some x2 ∧ W.cell? ⟨g, 3, none⟩ = some x3 := ⟨h.cell 0, h.cell 1, h.cell 2, h.cell 3⟩
/-- a copied device and a copied request, each behind a pointer -/
structure Cq (w1 : World) (D : Dev) (q : Rq) (g h : Nat) (W : World) : Prop where
  below : Below w1.heap.size w1 W
  hg : w1.heap.size ≤ g
  hh : w1.heap.size ≤ h
  dev : ∃ vb vc vq, Box W g 28 #[.int .i64 D.dep, .int .i64 D.nxt, vb, vc, vq] ∧ OwnB w1.heap.size W vb D.bl ∧ OwnC w1.heap.size W vc D.ca ∧ OwnQ w1.heap.size W vq D.qu ∧ some h ≠ vq.ownBlock
  req : ReqAt W h q
end Go.Proofs.Ytnegigcjeoenmaa.Dv
