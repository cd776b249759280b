import Derived.Test.YtacehgcgkpolhaaInv
import Derived.Laws.Rows
namespace Go.Proofs.Ytacehgcgkpolhaa.Pt
open Go Go.RowKit
set_option linter.unusedVariables false
/-- the six cells of the entry of a word -/
def ef (W : Int) : List Value := [.int .i64 (uk W), .int .i64 (un W), .bool (f3 W), .bool (f4 W), .bool (f5 W), .bool (f6 W)]
/-- the cells of eight entries -/
def pgCells (b : Nat → Int) : Array Value := (ef (b 0) ++ (ef (b 1) ++ (ef (b 2) ++ (ef (b 3) ++ (ef (b 4) ++ (ef (b 5) ++ (ef (b 6) ++ ef (b 7)))))))).toArray
theorem pg_size (b : Nat → Int) : (pgCells b).size = 48 := rfl
theorem pg_get (b : Nat → Int) (k j : Nat) (hk : k < 8) (hj : j < 6) : (pgCells b)[k * 6 + j]? = (ef (b k))[j]? := by
  rcases (by omega : k = 0 ∨ k = 1 ∨ k = 2 ∨ k = 3 ∨ k = 4 ∨ k = 5 ∨ k = 6 ∨ k = 7) with rfl | rfl | rfl | rfl | rfl | rfl | rfl | rfl <;>
  rcases (by omega : j = 0 ∨ j = 1 ∨ j = 2 ∨ j = 3 ∨ j = 4 ∨ j = 5) with rfl | rfl | rfl | rfl | rfl | rfl <;> rfl
theorem pg_extract (b : Nat → Int) (k : Nat) (hk : k < 8) : (pgCells b).extract (k * 6) (k * 6 + 6) = (ef (b k)).toArray := by
  rcases (by omega : k = 0 ∨ k = 1 ∨ k = 2 ∨ k = 3 ∨ k = 4 ∨ k = 5 ∨ k = 6 ∨ k = 7) with rfl | rfl | rfl | rfl | rfl | rfl | rfl | rfl <;> rfl
def upd (b : Nat → Int) (k : Nat) (x : Int) : Nat → Int := fun j => if j = k then x else b j
theorem set_at (c d : List Value) (v y : Value) (n : Nat) (h : c.length = n) : (c ++ y :: d).set n v = c ++ v :: d := by
  subst h
  rw [List.set_append_right _ _ (Nat.le_refl _)]
  simp
theorem six_set (c d : List Value) (W x : Int) (n : Nat) (h : c.length = n) :
    ((((((c ++ (ef W ++ d)).set n (.int .i64 (uk x))).set (n + 1) (.int .i64 (un x))).set (n + 2) (.bool (f3 x))).set (n + 3) (.bool (f4 x))).set (n + 4) (.bool (f5 x))).set (n + 5) (.bool (f6 x)) = c ++ (ef x ++ d) := by
  subst h
  simp only [List.set_append_right _ _ (Nat.le_refl _), List.set_append_right _ _ (Nat.le_add_right _ _), Nat.sub_self, Nat.add_sub_cancel_left, ef]
  rfl
theorem pg_upd (b : Nat → Int) (k : Nat) (x : Int) (hk : k < 8) :
    ((((((pgCells b).setIfInBounds (k * 6) (.int .i64 (uk x))).setIfInBounds (k * 6 + 1) (.int .i64 (un x))).setIfInBounds (k * 6 + 2) (.bool (f3 x))).setIfInBounds (k * 6 + 3) (.bool (f4 x))).setIfInBounds (k * 6 + 4) (.bool (f5 x))).setIfInBounds (k * 6 + 5) (.bool (f6 x)) = pgCells (upd b k x) := by
  apply Array.toList_inj.1
  simp only [Array.toList_setIfInBounds]
  unfold pgCells
  rcases (by omega : k = 0 ∨ k = 1 ∨ k = 2 ∨ k = 3 ∨ k = 4 ∨ k = 5 ∨ k = 6 ∨ k = 7) with rfl | rfl | rfl | rfl | rfl | rfl | rfl | rfl
  · have h := six_set ([]) ((ef (b 1) ++ (ef (b 2) ++ (ef (b 3) ++ (ef (b 4) ++ (ef (b 5) ++ (ef (b 6) ++ ef (b 7)))))))) (b 0) x 0 rfl
    simp only [List.nil_append] at h
    simpa [upd] using h
  · have h := six_set (ef (b 0)) ((ef (b 2) ++ (ef (b 3) ++ (ef (b 4) ++ (ef (b 5) ++ (ef (b 6) ++ ef (b 7))))))) (b 1) x 6 rfl
    simpa [upd] using h
  · have h := six_set ((ef (b 0) ++ ef (b 1))) ((ef (b 3) ++ (ef (b 4) ++ (ef (b 5) ++ (ef (b 6) ++ ef (b 7)))))) (b 2) x 12 rfl
    simp only [List.append_assoc] at h
    simpa [upd] using h
  · have h := six_set ((ef (b 0) ++ (ef (b 1) ++ ef (b 2)))) ((ef (b 4) ++ (ef (b 5) ++ (ef (b 6) ++ ef (b 7))))) (b 3) x 18 rfl
    simp only [List.append_assoc] at h
    simpa [upd] using h
  · have h := six_set ((ef (b 0) ++ (ef (b 1) ++ (ef (b 2) ++ ef (b 3))))) ((ef (b 5) ++ (ef (b 6) ++ ef (b 7)))) (b 4) x 24 rfl
    simp only [List.append_assoc] at h
    simpa [upd] using h
  · have h := six_set ((ef (b 0) ++ (ef (b 1) ++ (ef (b 2) ++ (ef (b 3) ++ ef (b 4)))))) ((ef (b 6) ++ ef (b 7))) (b 5) x 30 rfl
    simp only [List.append_assoc] at h
    simpa [upd] using h
  · have h := six_set ((ef (b 0) ++ (ef (b 1) ++ (ef (b 2) ++ (ef (b 3) ++ (ef (b 4) ++ ef (b 5))))))) (ef (b 7)) (b 6) x 36 rfl
    simp only [List.append_assoc] at h
    simpa [upd] using h
  · have h := six_set ((ef (b 0) ++ (ef (b 1) ++ (ef (b 2) ++ (ef (b 3) ++ (ef (b 4) ++ (ef (b 5) ++ ef (b 6)))))))) ([]) (b 7) x 42 rfl
    simp only [List.append_assoc, List.append_nil] at h
    simpa [upd] using h
def Pg (w : World) (g : Nat) (T : TypeId) (b : Nat → Int) : Prop := w.heap[g]? = some (.cells (pgCells b) T (0, 0))
section
variable {w w' : World} {g k : Nat} {T : TypeId} {b : Nat → Int}
theorem Pg.lt (h : Pg w g T b) : g < w.heap.size := by
  rcases Nat.lt_or_ge g w.heap.size with h1 | h1
  · exact h1
  · unfold Pg at h; rw [Array.getElem?_eq_none h1] at h; cases h
theorem Pg.below (h : Pg w g T b) (hb : Below w.heap.size w w') : Pg w' g T b := (hb.block g h.lt).trans h
theorem Pg.cell (h : Pg w g T b) (k j : Nat) (hk : k < 8) (hj : j < 6) : w.cell? ⟨g, k * 6 + j, none⟩ = (ef (b k))[j]? := by
  unfold Pg at h
  rw [cell_of_row w g _ _ _ _ h, pg_get b k j hk hj]
theorem Pg.cells (h : Pg w g T b) (hk : k < 8) : w.cell? ⟨g, k * 6, none⟩ = some (.int .i64 (uk (b k))) ∧ w.cell? ⟨g, k * 6 + 1, none⟩ = some (.int .i64 (un (b k))) ∧ w.cell? ⟨g, k * 6 + 2, none⟩ = some (.bool (f3 (b k))) ∧ w.cell? ⟨g, k * 6 + 3, none⟩ = some (.bool (f4 (b k))) ∧ w.cell? ⟨g, k * 6 + 4, none⟩ = some (.bool (f5 (b k))) ∧ w.cell? ⟨g, k * 6 + 5, none⟩ = some (.bool (f6 (b k))) :=
  ⟨h.cell k 0 hk (by omega), h.cell k 1 hk (by omega), h.cell k 2 hk (by omega), h.cell k 3 hk (by omega), h.cell k 4 hk (by omega), h.cell k 5 hk (by omega)⟩
theorem Pg.free (h : Pg w g T b) (o : Nat) : w.frozen? ⟨g, o, none⟩ = false := frozen_of_row w g o _ _ h
theorem Pg.put (h : Pg w g T b) (hk : k < 8) (x : Int) :
    Pg ((((((w.setCell ⟨g, k * 6, none⟩ (.int .i64 (uk x))).setCell ⟨g, k * 6 + 1, none⟩ (.int .i64 (un x))).setCell ⟨g, k * 6 + 2, none⟩ (.bool (f3 x))).setCell ⟨g, k * 6 + 3, none⟩ (.bool (f4 x))).setCell ⟨g, k * 6 + 4, none⟩ (.bool (f5 x))).setCell ⟨g, k * 6 + 5, none⟩ (.bool (f6 x))) g T (upd b k x) := by
  unfold Pg at h ⊢
  have h1 := heap_setCell_same w g (k * 6) _ T (.int .i64 (uk x)) h
  have h2 := heap_setCell_same _ g (k * 6 + 1) _ T (.int .i64 (un x)) h1
  have h3 := heap_setCell_same _ g (k * 6 + 2) _ T (.bool (f3 x)) h2
  have h4 := heap_setCell_same _ g (k * 6 + 3) _ T (.bool (f4 x)) h3
  have h5 := heap_setCell_same _ g (k * 6 + 4) _ T (.bool (f5 x)) h4
  have h6 := heap_setCell_same _ g (k * 6 + 5) _ T (.bool (f6 x)) h5
  rw [h6, pg_upd b k x hk]
end
/-- eight words in a box -/
def wdCells (a : Nat → Int) : Array Value := #[.int .u64 (a 0), .int .u64 (a 1), .int .u64 (a 2), .int .u64 (a 3), .int .u64 (a 4), .int .u64 (a 5), .int .u64 (a 6), .int .u64 (a 7)]
theorem wd_get (a : Nat → Int) (k : Nat) (hk : k < 8) : (wdCells a)[k]? = some (.int .u64 (a k)) := by
  rcases (by omega : k = 0 ∨ k = 1 ∨ k = 2 ∨ k = 3 ∨ k = 4 ∨ k = 5 ∨ k = 6 ∨ k = 7) with rfl | rfl | rfl | rfl | rfl | rfl | rfl | rfl <;> rfl
def chk1 (a : Nat → Int) (k : Nat) : Bool := (uk (a k) == 1) && !f6 (a k)
def chk2 (a : Nat → Int) (k : Nat) : Bool := un (a k) == un (a 0) + k
def chk3 (a : Nat → Int) (k : Nat) : Bool := f3 (a k) == f3 (a 0)
def all8 (p : Nat → Bool) : Bool := (List.range 8).all p
theorem all8_t {p : Nat → Bool} (h : ∀ k, k < 8 → p k = true) : all8 p = true := by unfold all8; simpa using h
theorem all8_f {p : Nat → Bool} {k : Nat} (hk : k < 8) (h : p k = false) : all8 p = false := by
  cases e : all8 p
  · rfl
  · unfold all8 at e; simp at e; rw [e k hk] at h; cases h
def chkR (a : Nat → Int) : Int := if all8 (chk1 a) = false then 11 else if all8 (chk2 a) = false then 10 else if all8 (chk3 a) = false then 12 else 0
theorem ext_arr (b : Nat → Int) (k : Nat) (hk : k < 8) : (pgCells b).extract (k * 6) (k * 6 + 6) = #[.int .i64 (uk (b k)), .int .i64 (un (b k)), .bool (f3 (b k)), .bool (f4 (b k)), .bool (f5 (b k)), .bool (f6 (b k))] := pg_extract b k hk
theorem index_arr (b : Nat → Int) (k : Nat) (hk : k < 8) (w : World) : (Instr.index 49 (.agg (pgCells b)) (.int .i64 (k : Int))).run Try.prog w = .ok (.agg #[.int .i64 (uk (b k)), .int .i64 (un (b k)), .bool (f3 (b k)), .bool (f4 (b k)), .bool (f5 (b k)), .bool (f6 (b k))]) w := by
  have h := Try.underlying49
  simp [Instr.index, run_underlying h, asIntOf, go_sem]
  rw [if_pos hk, pg_extract b k hk]
  rfl
theorem Pg.first {w : World} {g : Nat} {T : TypeId} {b : Nat → Int} (h : Pg w g T b) : w.cell? ⟨g, 0, none⟩ = some (.int .i64 (uk (b 0))) ∧ w.cell? ⟨g, 1, none⟩ = some (.int .i64 (un (b 0))) ∧ w.cell? ⟨g, 2, none⟩ = some (.bool (f3 (b 0))) ∧ w.cell? ⟨g, 3, none⟩ = some (.bool (f4 (b 0))) ∧ w.cell? ⟨g, 4, none⟩ = some (.bool (f5 (b 0))) ∧ w.cell? ⟨g, 5, none⟩ = some (.bool (f6 (b 0))) := by
  simpa using h.cells (k := 0) (by omega)
theorem Pg.new (w : World) (T : TypeId) (b : Nat → Int) : Pg (w.alloc (.cells (pgCells b) T)) w.heap.size T b := heap_alloc_new w _
theorem chk1_t {a : Nat → Int} {k : Nat} (h : chk1 a k = true) : (uk (a k) != 1) = false ∧ f6 (a k) = false := by
  unfold chk1 at h; simp at h; simp [h]
theorem chk1_f {a : Nat → Int} {k : Nat} (h : chk1 a k = false) : (uk (a k) != 1) = true ∨ ((uk (a k) != 1) = false ∧ f6 (a k) = true) := by
  unfold chk1 at h
  cases e : (uk (a k) == 1)
  · left; simpa [bne] using e
  · right; rw [e] at h; simp at h; exact ⟨by simpa [bne] using e, h⟩
theorem chk2_t {a : Nat → Int} {k : Nat} (h : chk2 a k = true) : (un (a k) != un (a 0) + (k : Int)) = false := by unfold chk2 at h; simpa [bne] using h
theorem chk2_f {a : Nat → Int} {k : Nat} (h : chk2 a k = false) : (un (a k) != un (a 0) + (k : Int)) = true := by unfold chk2 at h; simpa [bne] using h
theorem chk3_t {a : Nat → Int} {k : Nat} (h : chk3 a k = true) : (!(f3 (a k) == f3 (a 0))) = false := by unfold chk3 at h; rw [h]; rfl
theorem chk3_f {a : Nat → Int} {k : Nat} (h : chk3 a k = false) : (!(f3 (a k) == f3 (a 0))) = true := by unfold chk3 at h; rw [h]; rfl
def Ok8 (p : Nat → Bool) (k : Nat) : Prop := ∀ j, j < k → p j = true
theorem Ok8.step {p : Nat → Bool} {k : Nat} (h : Ok8 p k) (h1 : p k = true) : Ok8 p (k + 1) := fun j hj => by
  rcases Nat.lt_or_ge j k with h2 | h2
  · exact h j h2
  · obtain rfl : j = k := by omega
    exact h1
theorem Ok8.all {p : Nat → Bool} {k : Nat} (h : Ok8 p k) (hk : ¬ k < 8) : all8 p = true := all8_t fun j hj => h j (by omega)
theorem chkR_1 {a : Nat → Int} {k : Nat} (hk : k < 8) (h : chk1 a k = false) : 11 = chkR a := by unfold chkR; rw [if_pos (all8_f hk h)]
theorem chkR_2 {a : Nat → Int} {k : Nat} (h1 : all8 (chk1 a) = true) (hk : k < 8) (h : chk2 a k = false) : 10 = chkR a := by unfold chkR; rw [if_neg (by rw [h1]; decide), if_pos (all8_f hk h)]
theorem chkR_3 {a : Nat → Int} {k : Nat} (h1 : all8 (chk1 a) = true) (h2 : all8 (chk2 a) = true) (hk : k < 8) (h : chk3 a k = false) : 12 = chkR a := by unfold chkR; rw [if_neg (by rw [h1]; decide), if_neg (by rw [h2]; decide), if_pos (all8_f hk h)]
theorem chkR_0 {a : Nat → Int} (h1 : all8 (chk1 a) = true) (h2 : all8 (chk2 a) = true) (h3 : all8 (chk3 a) = true) : 0 = chkR a := by unfold chkR; rw [if_neg (by rw [h1]; decide), if_neg (by rw [h2]; decide), if_neg (by rw [h3]; decide)]
end Go.Proofs.Ytacehgcgkpolhaa.Pt
