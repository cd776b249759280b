import Derived.Test.YtcndbehgklkiiaaAw
import Derived.Test.YtcndbehgklkiiaaRd
import Derived.Maps.AppendAt
import Derived.Deep.CutBlock
import Derived.Laws.MakeOwn
namespace Go.Proofs.Ytcndbehgklkiiaa.Es
open Go Go.RowKit
set_option linter.unusedVariables false
set_option linter.unusedSimpArgs false
-- ROWS OF ONE CELL AN ELEMENT
def Rw (w : World) (g : Nat) (T : TypeId) (f : Nat → Value) : Prop := w.rowIs g T 4 f
section
variable {w w' : World} {g : Nat} {T : TypeId} {f : Nat → Value}
theorem Rw.lt (h : Rw w g T f) : g < w.heap.size := World.rowIs.lt h
theorem Rw.blk (h : Rw w g T f) (e : w'.heap[g]? = w.heap[g]?) : Rw w' g T f := World.rowIs.of_block h e
theorem Rw.at (h : Rw w g T f) {i : Nat} (hi : i < 4) : w.cell? ⟨g, i, none⟩ = some (f i) := World.rowIs.cell h hi
theorem Rw.frozen (h : Rw w g T f) (i : Nat) : w.frozen? ⟨g, i, none⟩ = false := World.rowIs.frozen h i
theorem Rw.put (h : Rw w g T f) (k : Nat) (v : Value) : Rw (w.setCell ⟨g, k, none⟩ v) g T (fun i => if i = k then v else f i) := (World.rowIs.set h k v).congr fun i hi => rfl
theorem Rw.congr {f' : Nat → Value} (h : Rw w g T f) (e : ∀ i, i < 4 → f i = f' i) : Rw w g T f' := World.rowIs.congr h fun i hi => by rw [e i hi]
end
-- WHAT CHANGES ONLY THREE BLOCKS
structure Fr (p q r : Nat) (w w' : World) : Prop where
  b : Below 0 w w'
  o : ∀ k, k ≠ p → k ≠ q → k ≠ r → w'.heap[k]? = w.heap[k]?
theorem Fr.refl (p q r : Nat) (w : World) : Fr p q r w w := ⟨Below.refl _ _, fun _ _ _ _ => rfl⟩
theorem Fr.set {p q r : Nat} {w w' : World} (h : Fr p q r w w') (g i : Nat) (v : Value) (hg : g = p ∨ g = q ∨ g = r) : Fr p q r w (w'.setCell ⟨g, i, none⟩ v) :=
  ⟨h.b.setCell (p := ⟨g, i, none⟩) (Nat.zero_le _) v, fun k h1 h2 h3 => (heap_setCell_other w' ⟨g, i, none⟩ k v (by rintro rfl; rcases hg with rfl | rfl | rfl <;> contradiction)).trans (h.o k h1 h2 h3)⟩
theorem Fr.drew {p q r : Nat} {w w' : World} (h : Fr p q r w w') (n : Nat) : Fr p q r w (w'.drewN n) := ⟨below_drewN h.b n, fun k h1 h2 h3 => h.o k h1 h2 h3⟩
theorem Fr.below {p q r B : Nat} {a w w' : World} (h : Fr p q r w w') (hb : Below B a w) (h1 : B ≤ p) (h2 : B ≤ q) (h3 : B ≤ r) : Below B a w' :=
  ⟨h.b.os.trans hb.os, h.b.tape.trans hb.tape, h.b.output.trans hb.output, Nat.le_trans hb.size h.b.size, fun k hk => (h.o k (by omega) (by omega) (by omega)).trans (hb.block k hk)⟩
theorem Fr.size {p q r : Nat} {w w' : World} (h : Fr p q r w w') : w.heap.size ≤ w'.heap.size := h.b.size
-- THE WORLD OF THE REFERENCE
structure Wd (w : World) (p gk gb : Nat) (E S : Int) (kn : Nat → Int) (bg : Nat → Bool) : Prop where
  box : Box w p 67 #[.int .i64 E, .int .i64 S, .slice (some ⟨gk, 0, none⟩) 4 4, .slice (some ⟨gb, 0, none⟩) 4 4]
  kn : Rw w gk 3 (fun i => .int .i64 (kn i))
  bg : Rw w gb 4 (fun i => .bool (bg i))
  n1 : p ≠ gk
  n2 : p ≠ gb
  n3 : gk ≠ gb
theorem Wd.below {w w' : World} {p gk gb : Nat} {E S : Int} {kn : Nat → Int} {bg : Nat → Bool} (h : Wd w p gk gb E S kn bg) (hb : Below w.heap.size w w') : Wd w' p gk gb E S kn bg :=
  ⟨h.box.below hb, h.kn.blk (hb.block _ h.kn.lt), h.bg.blk (hb.block _ h.bg.lt), h.n1, h.n2, h.n3⟩
theorem Wd.blk {w w' : World} {p gk gb : Nat} {E S : Int} {kn : Nat → Int} {bg : Nat → Bool} (h : Wd w p gk gb E S kn bg) (e : ∀ k, (k = p ∨ k = gk ∨ k = gb) → w'.heap[k]? = w.heap[k]?) : Wd w' p gk gb E S kn bg :=
  ⟨(e p (.inl rfl)).trans h.box, h.kn.blk (e gk (.inr (.inl rfl))), h.bg.blk (e gb (.inr (.inr rfl))), h.n1, h.n2, h.n3⟩
theorem Box.four {W : World} {g : Nat} {x y z u : Value} {t : TypeId} (h : Box W g t #[x, y, z, u]) : W.cell? ⟨g, 0, none⟩ = some x ∧ W.cell? ⟨g, 1, none⟩ = some y ∧ W.cell? ⟨g, 2, none⟩ = some z ∧ W.cell? ⟨g, 3, none⟩ = some u := ⟨h.cell 0, h.cell 1, h.cell 2, h.cell 3⟩
section
variable {w : World} {p gk gb : Nat} {E S : Int} {kn : Nat → Int} {bg : Nat → Bool}
theorem Wd.setE (h : Wd w p gk gb E S kn bg) (x : Int) : Wd (w.setCell ⟨p, 0, none⟩ (.int .i64 x)) p gk gb x S kn bg :=
  ⟨by have := h.box.put 0 (.int .i64 x); simpa using this, h.kn.blk (heap_setCell_other w ⟨p, 0, none⟩ gk _ (fun e => h.n1 e.symm)), h.bg.blk (heap_setCell_other w ⟨p, 0, none⟩ gb _ (fun e => h.n2 e.symm)), h.n1, h.n2, h.n3⟩
theorem Wd.setS (h : Wd w p gk gb E S kn bg) (x : Int) : Wd (w.setCell ⟨p, 1, none⟩ (.int .i64 x)) p gk gb E x kn bg :=
  ⟨by have := h.box.put 1 (.int .i64 x); simpa using this, h.kn.blk (heap_setCell_other w ⟨p, 1, none⟩ gk _ (fun e => h.n1 e.symm)), h.bg.blk (heap_setCell_other w ⟨p, 1, none⟩ gb _ (fun e => h.n2 e.symm)), h.n1, h.n2, h.n3⟩
def upd {α : Type} (f : Nat → α) (k : Nat) (x : α) : Nat → α := fun i => if i = k then x else f i
theorem Wd.setK (h : Wd w p gk gb E S kn bg) (k : Nat) (x : Int) : Wd (w.setCell ⟨gk, k, none⟩ (.int .i64 x)) p gk gb E S (upd kn k x) bg :=
  ⟨h.box.far h.n1 _, (h.kn.put k _).congr (fun i hi => by unfold upd; split <;> rfl), h.bg.blk (heap_setCell_other w ⟨gk, k, none⟩ gb _ (fun e => h.n3 e.symm)), h.n1, h.n2, h.n3⟩
theorem Wd.setB (h : Wd w p gk gb E S kn bg) (k : Nat) (x : Bool) : Wd (w.setCell ⟨gb, k, none⟩ (.bool x)) p gk gb E S kn (upd bg k x) :=
  ⟨h.box.far h.n2 _, h.kn.blk (heap_setCell_other w ⟨gb, k, none⟩ gk _ h.n3), (h.bg.put k _).congr (fun i hi => by unfold upd; split <;> rfl), h.n1, h.n2, h.n3⟩
end
set_option maxHeartbeats 1000000 in
theorem fail_any (w : World) (p gk gb : Nat) (E S : Int) (kn : Nat → Int) (bg : Nat → Bool) (h : Wd w p gk gb E S kn bg) (h0 : 0 ≤ E) (h1 : E ≤ 1000) : Calls Try.prog 38 #[.pointer (some ⟨p, 0, none⟩)] w fun e w' => (∃ v, e = .returned v) ∧ Fr p gk gb w w' ∧ Wd w' p gk gb (E + 1) S kn bg := by
  obtain ⟨x0, x1, x2, x3⟩ := h.box.four
  have f0 := h.box.frozen 0
  have D := hide (h.setE (E + 1))
  have F := hide ((Fr.refl p gk gb w).set p 0 (.int .i64 (E + 1)) (.inl rfl))
  clear h
  have hw : IntKind.i64.wrap (E + 1) = E + 1 := by rw [IntKind.wrap_i64]; omega
  go_enter Try.func38, Try.ntmps38
  go_wp2
  refine bodyPost_end (results_none rfl _ _ _) rfl ?_
  exact ⟨⟨_, rfl⟩, F.out, D.out⟩
set_option maxHeartbeats 2000000 in
theorem begin_any (w : World) (p gk gb : Nat) (E S : Int) (kn : Nat → Int) (bg : Nat → Bool) (i : Nat) (h : Wd w p gk gb E S kn bg) (hi : i < 4) : Calls Try.prog 39 #[.pointer (some ⟨p, 0, none⟩), .int .i64 (i : Int)] w fun e w' => (∃ v, e = .returned v) ∧ Fr p gk gb w w' ∧ Wd w' p gk gb E S (upd kn i S) (upd bg i true) := by
  obtain ⟨x0, x1, x2, x3⟩ := h.box.four
  have hi2 : (i : Int) < 4 := by omega
  have b0 := h.bg.at hi
  have fb := h.bg.frozen i
  have D := hide (h.setB i true)
  have F := hide ((Fr.refl p gk gb w).set gb i (.bool true) (.inr (.inr rfl)))
  clear h
  generalize bg i = bb at *
  go_enter Try.func39, Try.ntmps39
  go_upto_region 1 with fail
  clear x0 x1 x2 x3 b0 fb
  generalize w.setCell ⟨gb, i, none⟩ (.bool true) = w1 at *
  obtain ⟨x0, x1, x2, x3⟩ := D.out.box.four
  have k0 := D.out.kn.at hi
  have fk := D.out.kn.frozen i
  have D2 := hide (D.out.setK i S)
  have F2 := hide (F.out.set gk i (.int .i64 S) (.inr (.inl rfl)))
  clear D F
  generalize kn i = kk at *
  go_region
  go_wp2
  refine bodyPost_end (results_none rfl _ _ _) rfl ?_
  exact ⟨⟨_, rfl⟩, F2.out.drew 1, D2.out.blk (fun _ _ => rfl)⟩
set_option maxHeartbeats 2000000 in
theorem ask_any (w : World) (p gk gb : Nat) (E S : Int) (kn : Nat → Int) (bg : Nat → Bool) (i : Nat) (h : Wd w p gk gb E S kn bg) (hi : i < 4) : Calls Try.prog 40 #[.pointer (some ⟨p, 0, none⟩), .int .i64 (i : Int)] w fun e w' => e = .returned (.bool (decide (kn i < E))) ∧ Fr p gk gb w w' ∧ Wd w' p gk gb E (if kn i < E then E else S) (upd kn i E) bg := by
  obtain ⟨x0, x1, x2, x3⟩ := h.box.four
  have hi2 : (i : Int) < 4 := by omega
  have k0 := h.kn.at hi
  have D := hide (fun n => show Wd (w.drewN n) p gk gb E S kn bg from h.blk (fun _ _ => rfl))
  have F := hide (fun n => (Fr.refl p gk gb w).drew n)
  clear h
  by_cases hk : kn i < E
  · rw [decide_eq_true hk, if_pos hk]
    have dk : decide (kn i < E) = true := decide_eq_true hk
    generalize kn i = kk at *
    go_enter Try.func40, Try.ntmps40
    go_upto_region 1 with fail
    go_quiet (fail)
    rename_i nq
    replace D := hide (D.out nq)
    replace F := hide (F.out nq)
    clear x0 x1 x2 x3 k0
    generalize w.drewN nq = w1 at *
    obtain ⟨x0, x1, x2, x3⟩ := D.out.box.four
    have f1 := D.out.box.frozen 1
    replace F := hide (F.out.set p 1 (.int .i64 E) (.inl rfl))
    replace D := hide (D.out.setS E)
    go_upto_region 4 with fail
    clear x0 x1 x2 x3 f1
    generalize w1.setCell ⟨p, 1, none⟩ (.int .i64 E) = w2 at *
    obtain ⟨x0, x1, x2, x3⟩ := D.out.box.four
    have k0 := D.out.kn.at hi
    have fk := D.out.kn.frozen i
    have D2 := hide (D.out.setK i E)
    have F2 := hide (F.out.set gk i (.int .i64 E) (.inr (.inl rfl)))
    clear D F
    generalize kn i = k2 at *
    go_region
    go_wp2
    go_ret
    exact ⟨rfl, F2.out.drew 1, D2.out.blk (fun _ _ => rfl)⟩
  · rw [decide_eq_false hk, if_neg hk]
    have dk : decide (kn i < E) = false := decide_eq_false hk
    generalize kn i = kk at *
    go_enter Try.func40, Try.ntmps40
    go_upto_region 1 with fail
    go_quiet (fail)
    rename_i nq
    replace D := hide (D.out nq)
    replace F := hide (F.out nq)
    clear x0 x1 x2 x3 k0
    generalize w.drewN nq = w1 at *
    go_upto_region 4 with fail
    obtain ⟨x0, x1, x2, x3⟩ := D.out.box.four
    have k0 := D.out.kn.at hi
    have fk := D.out.kn.frozen i
    have D2 := hide (D.out.setK i E)
    have F2 := hide (F.out.set gk i (.int .i64 E) (.inr (.inl rfl)))
    clear D F
    generalize kn i = k2 at *
    go_region
    go_wp2
    go_ret
    exact ⟨rfl, F2.out.drew 1, D2.out.blk (fun _ _ => rfl)⟩
end Go.Proofs.Ytcndbehgklkiiaa.Es
