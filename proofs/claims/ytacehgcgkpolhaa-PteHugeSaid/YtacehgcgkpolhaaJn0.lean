import Derived.Test.YtacehgcgkpolhaaChk
namespace Go.Proofs.Ytacehgcgkpolhaa.Pt
open Go Go.RowKit
set_option linter.unusedVariables false
def Wd (w : World) (g : Nat) (a : Nat → Int) : Prop := w.heap[g]? = some (.cells (wdCells a) 37 (0, 0))
section
variable {w w' : World} {g k : Nat} {a : Nat → Int}
theorem Wd.lt (h : Wd w g a) : g < w.heap.size := by
  rcases Nat.lt_or_ge g w.heap.size with h1 | h1
  · exact h1
  · unfold Wd at h; rw [Array.getElem?_eq_none h1] at h; cases h
theorem Wd.below (h : Wd w g a) (hb : Below w.heap.size w w') : Wd w' g a := (hb.block g h.lt).trans h
theorem Wd.cell (h : Wd w g a) (hk : k < 8) : w.cell? ⟨g, k, none⟩ = some (.int .u64 (a k)) := by
  unfold Wd at h
  rw [cell_of_row w g _ _ _ _ h, wd_get a k hk]
theorem Wd.new (w : World) (a : Nat → Int) : Wd (w.alloc (.cells (wdCells a) 37)) w.heap.size a := heap_alloc_new w _
theorem Wd.far (h : Wd w g a) {p : Addr} (hp : g ≠ p.block) (v : Value) : Wd (w.setCell p v) g a := (Below.heap_setCell w p v g hp).trans h
end
theorem Pg.far {w : World} {g : Nat} {T : TypeId} {b : Nat → Int} (h : Pg w g T b) {p : Addr} (hp : g ≠ p.block) (v : Value) : Pg (w.setCell p v) g T b := (Below.heap_setCell w p v g hp).trans h
/-- the words so far, then none -/
def upto (a : Nat → Int) (k : Nat) : Nat → Int := fun j => if j < k then a j else 0
theorem upto_step (a : Nat → Int) (k : Nat) : upd (upto a k) k (a k) = upto a (k + 1) := by
  funext j
  unfold upd upto
  by_cases h : j = k
  · subst h; simp
  · by_cases h2 : j < k
    · rw [if_neg h, if_pos h2, if_pos (by omega)]
    · rw [if_neg h, if_neg h2, if_neg (by omega)]
theorem upto_8 (a : Nat → Int) : pgCells (upto a 8) = pgCells a := rfl
def goodAt (a : Nat → Int) (k : Nat) : Bool := good (a k)
def orUp (p : Nat → Bool) (k : Nat) : Bool := p 0 || (List.range k).any p
theorem orUp_step (p : Nat → Bool) (k : Nat) : orUp p (k + 1) = (orUp p k || p k) := by
  unfold orUp
  rw [List.range_succ, List.any_append]
  simp [Bool.or_assoc]
theorem orUp_0 (p : Nat → Bool) : orUp p 0 = p 0 := by unfold orUp; simp
def f4at (a : Nat → Int) (k : Nat) : Bool := f4 (a k)
def f5at (a : Nat → Int) (k : Nat) : Bool := f5 (a k)
def joinW (a : Nat → Int) : Int := if all8 (goodAt a) = false then 0 else if chkR a ≠ 0 then 0 else word (uk (a 0)) (un (a 0)) (f3 (a 0)) (orUp (f4at a) 8) (orUp (f5at a) 8) true
def joinE (a : Nat → Int) : Int := if all8 (goodAt a) = false then 3 else if chkR a ≠ 0 then chkR a else err (uk (a 0)) (un (a 0)) (f3 (a 0)) (orUp (f4at a) 8) (orUp (f5at a) 8) true
theorem join_bad {a : Nat → Int} {k : Nat} (hk : k < 8) (h : goodAt a k = false) : joinW a = 0 ∧ joinE a = 3 := by
  unfold joinW joinE; rw [if_pos (all8_f hk h), if_pos (all8_f hk h)]; exact ⟨rfl, rfl⟩
theorem join_chk {a : Nat → Int} (h1 : all8 (goodAt a) = true) (h2 : chkR a ≠ 0) : joinW a = 0 ∧ joinE a = chkR a := by
  unfold joinW joinE; simp [h1, h2]
theorem join_ok {a : Nat → Int} (h1 : all8 (goodAt a) = true) (h2 : chkR a = 0) : joinW a = word (uk (a 0)) (un (a 0)) (f3 (a 0)) (orUp (f4at a) 8) (orUp (f5at a) 8) true ∧ joinE a = err (uk (a 0)) (un (a 0)) (f3 (a 0)) (orUp (f4at a) 8) (orUp (f5at a) 8) true := by
  unfold joinW joinE; simp [h1, h2]
def In64 (a : Nat → Int) : Prop := ∀ k, k < 8 → 0 ≤ a k ∧ a k < 18446744073709551616
theorem Ent.far {w : World} {g : Nat} {k n : Int} {wr ac di hu : Bool} (h : Ent w g k n wr ac di hu) {p : Addr} (hp : g ≠ p.block) (v : Value) : Ent (w.setCell p v) g k n wr ac di hu := (Below.heap_setCell w p v g hp).trans h
theorem Ent.set3 {w : World} {g : Nat} {k n : Int} {wr ac di hu b : Bool} (h : Ent w g k n wr ac di hu) : Ent (w.setCell ⟨g, 3, none⟩ (.bool b)) g k n wr b di hu := by
  unfold Ent at h ⊢
  simp [World.setCell, Array.getElem?_modify, h]
theorem Ent.set4 {w : World} {g : Nat} {k n : Int} {wr ac di hu b : Bool} (h : Ent w g k n wr ac di hu) : Ent (w.setCell ⟨g, 4, none⟩ (.bool b)) g k n wr ac b hu := by
  unfold Ent at h ⊢
  simp [World.setCell, Array.getElem?_modify, h]
theorem bset6k {a w : World} {g k : Nat} {a0 a1 a2 a3 a4 a5 : Value} (h : Below a.heap.size a w) (hg : a.heap.size ≤ g) :
    Below a.heap.size a ((((((w.setCell ⟨g, k * 6, none⟩ a0).setCell ⟨g, k * 6 + 1, none⟩ a1).setCell ⟨g, k * 6 + 2, none⟩ a2).setCell ⟨g, k * 6 + 3, none⟩ a3).setCell ⟨g, k * 6 + 4, none⟩ a4).setCell ⟨g, k * 6 + 5, none⟩ a5) :=
  bset (bset (bset (bset (bset (bset h hg _) hg _) hg _) hg _) hg _) hg _
theorem Wd.far6k {w : World} {g b k : Nat} {a : Nat → Int} {a0 a1 a2 a3 a4 a5 : Value} (h : Wd w g a) (hp : g ≠ b) :
    Wd ((((((w.setCell ⟨b, k * 6, none⟩ a0).setCell ⟨b, k * 6 + 1, none⟩ a1).setCell ⟨b, k * 6 + 2, none⟩ a2).setCell ⟨b, k * 6 + 3, none⟩ a3).setCell ⟨b, k * 6 + 4, none⟩ a4).setCell ⟨b, k * 6 + 5, none⟩ a5) g a :=
  (((((h.far hp _).far hp _).far hp _).far hp _).far hp _).far hp _
theorem zeros_pg : (#[.int .i64 0, .int .i64 0, .bool false, .bool false, .bool false, .bool false, .int .i64 0, .int .i64 0, .bool false, .bool false, .bool false, .bool false, .int .i64 0, .int .i64 0, .bool false, .bool false, .bool false, .bool false, .int .i64 0, .int .i64 0, .bool false, .bool false, .bool false, .bool false, .int .i64 0, .int .i64 0, .bool false, .bool false, .bool false, .bool false, .int .i64 0, .int .i64 0, .bool false, .bool false, .bool false, .bool false, .int .i64 0, .int .i64 0, .bool false, .bool false, .bool false, .bool false, .int .i64 0, .int .i64 0, .bool false, .bool false, .bool false, .bool false] : Array Value) = pgCells (fun _ => 0) := by
  have h : ef 0 = [.int .i64 0, .int .i64 0, .bool false, .bool false, .bool false, .bool false] := by
    unfold ef
    rw [show uk 0 = 0 from by decide, show un 0 = 0 from by decide, show f3 0 = false from by decide, show f4 0 = false from by decide, show f5 0 = false from by decide, show f6 0 = false from by decide]
  unfold pgCells
  simp only [h]
  rfl
theorem check_0 (a : Nat → Int) (w : World) (h : chkR a = 0) : Calls Try.prog 35 #[.agg (pgCells a)] w fun e w' => e = .returned (.int .i64 0) ∧ Below w.heap.size w w' := (check_any a w).mono fun e w' ⟨he, hb⟩ => ⟨by rw [he, h], hb⟩
end Go.Proofs.Ytacehgcgkpolhaa.Pt
