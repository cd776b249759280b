/-
  DERIVED. The mathematics of a word of a page table: fields by division and remainder; no word of the dump.
-/
namespace Go.Proofs.Ythoeolaleeogbaa.Pt
set_option linter.unusedVariables false
def b2 (b : Bool) : Int := if b then 1 else 0
theorem b2_bd (b : Bool) : 0 ≤ b2 b ∧ b2 b ≤ 1 := by cases b <;> decide
theorem b2_one (b : Bool) : decide (b2 b = 1) = b := by cases b <;> decide
/-- what suits the kind of an entry -/
def suits (k n : Int) (wr ac di hu : Bool) : Bool :=
  (k == 1) || ((k == 3) && !ac && !di && !hu) || (k == 0 && n == 0 && !wr && !ac && !di && !hu) || ((k == 2 || k == 4) && !wr && !ac && !di && !hu)
def last (k : Int) (hu : Bool) : Int := if k = 1 ∧ hu = true then 4294967288 else 4294967295
def err (k n : Int) (wr ac di hu : Bool) : Int :=
  if k < 0 ∨ 4 < k then 1 else if n < 0 ∨ last k hu < n then 2 else if suits k n wr ac di hu then 0 else 3
def word0 (k n : Int) (wr ac di hu : Bool) : Int := k + 8 * b2 wr + 16 * b2 ac + 32 * b2 di + 64 * b2 hu + 256 * n
def word (k n : Int) (wr ac di hu : Bool) : Int := if err k n wr ac di hu = 0 then word0 k n wr ac di hu else 0
theorem last_bd (k : Int) (hu : Bool) : 4294967288 ≤ last k hu ∧ last k hu ≤ 4294967295 := by unfold last; split <;> omega
theorem err_bd {k n : Int} {wr ac di hu : Bool} (h : err k n wr ac di hu = 0) : 0 ≤ k ∧ k ≤ 4 ∧ 0 ≤ n ∧ n ≤ last k hu ∧ suits k n wr ac di hu = true := by
  unfold err at h
  split at h
  · omega
  · split at h
    · omega
    · split at h
      · rename_i h3; exact ⟨by omega, by omega, by omega, by omega, h3⟩
      · omega
theorem err_mk {k n : Int} {wr ac di hu : Bool} (h0 : 0 ≤ k) (h1 : k ≤ 4) (h2 : 0 ≤ n) (h3 : n ≤ last k hu) (h4 : suits k n wr ac di hu = true) : err k n wr ac di hu = 0 := by
  unfold err
  rw [if_neg (by omega), if_neg (by omega), if_pos h4]
def uk (W : Int) : Int := W % 8
def un (W : Int) : Int := W / 256 % 4294967296
def f3 (W : Int) : Bool := decide (W / 8 % 2 = 1)
def f4 (W : Int) : Bool := decide (W / 16 % 2 = 1)
def f5 (W : Int) : Bool := decide (W / 32 % 2 = 1)
def f6 (W : Int) : Bool := decide (W / 64 % 2 = 1)
theorem b2_dec (p : Prop) [Decidable p] (x : Int) (h0 : 0 ≤ x) (h1 : x ≤ 1) (h : p ↔ x = 1) : b2 (decide p) = x := by
  unfold b2
  by_cases hp : p
  · have := h.1 hp; simp [hp, this]
  · have : x ≠ 1 := fun e => hp (h.2 e)
    simp [hp]; omega
theorem b2_f3 (W : Int) : b2 (f3 W) = W / 8 % 2 := b2_dec _ _ (by omega) (by omega) Iff.rfl
theorem b2_f4 (W : Int) : b2 (f4 W) = W / 16 % 2 := b2_dec _ _ (by omega) (by omega) Iff.rfl
theorem b2_f5 (W : Int) : b2 (f5 W) = W / 32 % 2 := b2_dec _ _ (by omega) (by omega) Iff.rfl
theorem b2_f6 (W : Int) : b2 (f6 W) = W / 64 % 2 := b2_dec _ _ (by omega) (by omega) Iff.rfl
theorem of_b2 {a b : Bool} (h : b2 a = b2 b) : a = b := by cases a <;> cases b <;> first | rfl | (exfalso; revert h; decide)
theorem unword {k n : Int} {wr ac di hu : Bool} (h : err k n wr ac di hu = 0) :
    uk (word0 k n wr ac di hu) = k ∧ un (word0 k n wr ac di hu) = n ∧ f3 (word0 k n wr ac di hu) = wr ∧ f4 (word0 k n wr ac di hu) = ac ∧ f5 (word0 k n wr ac di hu) = di ∧ f6 (word0 k n wr ac di hu) = hu := by
  obtain ⟨h0, h1, h2, h3, _⟩ := err_bd h
  have hl := last_bd k hu
  have a1 := b2_bd wr
  have a2 := b2_bd ac
  have a3 := b2_bd di
  have a4 := b2_bd hu
  refine ⟨?_, ?_, of_b2 ?_, of_b2 ?_, of_b2 ?_, of_b2 ?_⟩
  · unfold uk word0; omega
  · unfold un word0; omega
  · rw [b2_f3]; unfold word0; omega
  · rw [b2_f4]; unfold word0; omega
  · rw [b2_f5]; unfold word0; omega
  · rw [b2_f6]; unfold word0; omega
theorem word_bd {k n : Int} {wr ac di hu : Bool} (h : err k n wr ac di hu = 0) : 0 ≤ word0 k n wr ac di hu ∧ word0 k n wr ac di hu < 1099511627776 ∧ word0 k n wr ac di hu / 128 % 2 = 0 := by
  obtain ⟨h0, h1, h2, h3, _⟩ := err_bd h
  have hl := last_bd k hu
  have a1 := b2_bd wr
  have a2 := b2_bd ac
  have a3 := b2_bd di
  have a4 := b2_bd hu
  unfold word0; omega
/-- does a word decode -/
def good (W : Int) : Bool := decide (err (uk W) (un W) (f3 W) (f4 W) (f5 W) (f6 W) = 0 ∧ word0 (uk W) (un W) (f3 W) (f4 W) (f5 W) (f6 W) = W)
theorem good_iff {W : Int} : good W = true ↔ err (uk W) (un W) (f3 W) (f4 W) (f5 W) (f6 W) = 0 ∧ word0 (uk W) (un W) (f3 W) (f4 W) (f5 W) (f6 W) = W := by unfold good; exact decide_eq_true_iff
theorem good_word {k n : Int} {wr ac di hu : Bool} (h : err k n wr ac di hu = 0) : good (word0 k n wr ac di hu) = true := by
  obtain ⟨h1, h2, h3, h4, h5, h6⟩ := unword h
  rw [good_iff, h1, h2, h3, h4, h5, h6]
  exact ⟨h, rfl⟩
theorem word_inj {k n k' n' : Int} {wr ac di hu wr' ac' di' hu' : Bool} (h : err k n wr ac di hu = 0) (h' : err k' n' wr' ac' di' hu' = 0) (he : word0 k n wr ac di hu = word0 k' n' wr' ac' di' hu') :
    k = k' ∧ n = n' ∧ wr = wr' ∧ ac = ac' ∧ di = di' ∧ hu = hu' := by
  obtain ⟨h1, h2, h3, h4, h5, h6⟩ := unword h
  obtain ⟨g1, g2, g3, g4, g5, g6⟩ := unword h'
  rw [he] at h1 h2 h3 h4 h5 h6
  exact ⟨h1.symm.trans g1, h2.symm.trans g2, h3.symm.trans g3, h4.symm.trans g4, h5.symm.trans g5, h6.symm.trans g6⟩
/-- A word that decodes: what its fields are. -/
theorem good_bd {W : Int} (h : good W = true) : 0 ≤ W ∧ W < 1099511627776 ∧ W / 128 % 2 = 0 := by
  obtain ⟨h1, h2⟩ := good_iff.1 h
  have := word_bd h1
  rw [h2] at this
  exact this
-- CHANGES OF FLAGS
theorem suits_page (n : Int) (wr ac di hu : Bool) : suits 1 n wr ac di hu = true := by unfold suits; simp
theorem suits_move (n : Int) (wr : Bool) : suits 3 n wr false false false = true := by unfold suits; simp
theorem suits_move_of {n : Int} {wr ac di hu : Bool} (h : suits 3 n wr ac di hu = true) : ac = false ∧ di = false ∧ hu = false := by
  unfold suits at h; revert h; cases ac <;> cases di <;> cases hu <;> simp
theorem suits_huge {k n : Int} {wr ac di : Bool} (h : suits k n wr ac di true = true) : k = 1 := by
  unfold suits at h; revert h; simp
theorem err_page {n : Int} {wr ac di wr' ac' di' hu : Bool} (h : err 1 n wr ac di hu = 0) : err 1 n wr' ac' di' hu = 0 := by
  obtain ⟨h0, h1, h2, h3, _⟩ := err_bd h
  exact err_mk h0 h1 h2 h3 (suits_page _ _ _ _ _)
theorem err_move {n : Int} {wr ac di wr' hu : Bool} (h : err 3 n wr ac di hu = 0) : err 3 n wr' ac di hu = 0 := by
  obtain ⟨h0, h1, h2, h3, h4⟩ := err_bd h
  obtain ⟨rfl, rfl, rfl⟩ := suits_move_of h4
  exact err_mk h0 h1 h2 h3 (suits_move _ _)
end Go.Proofs.Ythoeolaleeogbaa.Pt
