/-
  Plain mathematics on lists of words: what is found. No program text.
-/
import Derived.Test.YtdpdlbonlpdkjaaDoorMath2
import Derived.Lib.TrailingZeros
import Derived.Lib.BitFns
namespace Go.Proofs.YtdpdlbonlpdkjaaDoor.Bs
/-- a word with a 1 for each bit that is on -/
def eqW (on : Bool) (x : Nat) : Nat := if on then x else 2 ^ 64 - 1 - x
theorem eqW_lt (on : Bool) (x : Nat) (hx : x < 2 ^ 64) : eqW on x < 2 ^ 64 := by
  cases on <;> simp [eqW] <;> omega
theorem testBit_eqW (on : Bool) (x j : Nat) (hx : x < 2 ^ 64) (hj : j < 64) : (eqW on x).testBit j = (x.testBit j == on) := by
  cases on
  · have := testBit_compl x j hx hj
    simp only [eqW]
    rw [if_neg (by simp), this]; simp
  · simp [eqW]
/-- the word in which Find looks -/
def foundW (ws : List Nat) (S frm : Nat) (on : Bool) (k : Nat) : Nat := eqW on (ws.getD k 0) &&& spanN k frm S
theorem foundW_lt (ws : List Nat) (S frm : Nat) (on : Bool) (k : Nat) : foundW ws S frm on k < 2 ^ 64 := Nat.lt_of_le_of_lt Nat.and_le_right (spanN_lt _ _ _)
theorem testBit_foundW {ws : List Nat} (hw : ∀ x ∈ ws, x < 2 ^ 64) (S frm : Nat) (on : Bool) (k j : Nat) (hj : j < 64) :
    (foundW ws S frm on k).testBit j = ((bitAt ws (k * 64 + j) == on) && (decide (frm ≤ k * 64 + j) && decide (k * 64 + j < S))) := by
  unfold foundW
  rw [Nat.testBit_and, testBit_eqW _ _ _ (getD_lt' hw k) hj, testBit_spanN _ _ _ _ hj]
  unfold bitAt
  have e1 : (k * 64 + j) / 64 = k := by omega
  have e2 : (k * 64 + j) % 64 = j := by omega
  rw [e1, e2]
theorem foundW_zero {ws : List Nat} (hw : ∀ x ∈ ws, x < 2 ^ 64) {S frm : Nat} {on : Bool} {k : Nat} (h : foundW ws S frm on k = 0) (i : Nat) (hi : i / 64 = k) (h1 : frm ≤ i) (h2 : i < S) : bitAt ws i ≠ on := by
  have := testBit_foundW hw S frm on k (i % 64) (by omega)
  rw [h, Nat.zero_testBit] at this
  have e : k * 64 + i % 64 = i := by omega
  rw [e] at this
  intro hb
  simp [hb, h1, h2] at this
theorem ctz_spec {x : Nat} (h0 : x ≠ 0) (hx : x < 2 ^ 64) : Lib.ctz 64 x < 64 ∧ x.testBit (Lib.ctz 64 x) = true ∧ ∀ j, j < Lib.ctz 64 x → x.testBit j = false := by
  have e : Lib.ctz 64 x = Lib.ctzFrom 64 x := by unfold Lib.ctz; rw [if_neg h0]
  rw [e]
  obtain ⟨m, hm, hk⟩ := Lib.ctzFrom_spec 64 x (by omega) hx
  refine ⟨hk, ?_, fun j hj => ?_⟩
  · generalize Lib.ctzFrom 64 x = k at *
    rw [hm, Nat.mul_comm, Nat.testBit_mul_two_pow]
    simp [Nat.testBit_zero]
  · generalize Lib.ctzFrom 64 x = k at *
    rw [hm, Nat.mul_comm, Nat.testBit_mul_two_pow]
    have : ¬ k ≤ j := by omega
    simp [this]
/-- what Find answers -/
def FindIs (ws : List Nat) (S frm : Nat) (on : Bool) (r : Int) : Prop :=
  (r = -1 ∧ ∀ i, frm ≤ i → i < S → bitAt ws i ≠ on) ∨ ∃ p : Nat, r = p ∧ frm ≤ p ∧ p < S ∧ bitAt ws p = on ∧ ∀ i, frm ≤ i → i < p → bitAt ws i ≠ on
theorem FindIs.one {ws : List Nat} {S frm : Nat} {on : Bool} {r t : Int} (h : FindIs ws S frm on r) (k : FindIs ws S frm on t) : r = t := by
  rcases h with ⟨h1, h2⟩ | ⟨p, h1, h2, h3, h4, h5⟩ <;> rcases k with ⟨k1, k2⟩ | ⟨q, k1, k2, k3, k4, k5⟩
  · omega
  · exact absurd k4 (h2 q k2 k3)
  · exact absurd h4 (k2 p h2 h3)
  · by_cases c1 : p < q
    · exact absurd h4 (k5 p h2 c1)
    · by_cases c2 : q < p
      · exact absurd k4 (h5 q k2 c2)
      · omega
/-- no bit from frm on, in the words below k, is on -/
def noneTo (ws : List Nat) (S frm : Nat) (on : Bool) (k : Nat) : Prop := ∀ i, frm ≤ i → i < S → i < 64 * k → bitAt ws i ≠ on
theorem noneTo_start (ws : List Nat) (S frm : Nat) (on : Bool) : noneTo ws S frm on (frm / 64) := fun i h1 _ h3 => by omega
theorem noneTo_step {ws : List Nat} (hw : ∀ x ∈ ws, x < 2 ^ 64) {S frm : Nat} {on : Bool} {k : Nat} (h : noneTo ws S frm on k) (h0 : foundW ws S frm on k = 0) : noneTo ws S frm on (k + 1) := fun i h1 h2 h3 => by
  by_cases c : i < 64 * k
  · exact h i h1 h2 c
  · exact foundW_zero hw h0 i (by omega) h1 h2
theorem find_end {ws : List Nat} {S frm : Nat} {on : Bool} {k : Nat} (h : noneTo ws S frm on k) (hk : ws.length ≤ k) (hS : S ≤ 64 * ws.length) : FindIs ws S frm on (-1) :=
  .inl ⟨rfl, fun i h1 h2 => h i h1 h2 (by omega)⟩
theorem find_at {ws : List Nat} (hw : ∀ x ∈ ws, x < 2 ^ 64) {S frm : Nat} {on : Bool} {k : Nat} (h : noneTo ws S frm on k) (h0 : foundW ws S frm on k ≠ 0) :
    FindIs ws S frm on ((k * 64 + Lib.ctz 64 (foundW ws S frm on k) : Nat) : Int) := by
  obtain ⟨c1, c2, c3⟩ := ctz_spec h0 (foundW_lt _ _ _ _ _)
  generalize Lib.ctz 64 (foundW ws S frm on k) = t at *
  rw [testBit_foundW hw _ _ _ _ _ c1] at c2
  simp only [Bool.and_eq_true, beq_iff_eq, decide_eq_true_eq] at c2
  refine .inr ⟨_, rfl, c2.2.1, c2.2.2, c2.1, fun i h1 h2 => ?_⟩
  by_cases c : i < 64 * k
  · exact h i h1 (by omega) c
  · have := c3 (i - k * 64) (by omega)
    rw [testBit_foundW hw _ _ _ _ _ (by omega)] at this
    have e : k * 64 + (i - k * 64) = i := by omega
    rw [e] at this
    have hS : i < S := by omega
    intro hb
    simp [hb, h1, hS] at this
end Go.Proofs.YtdpdlbonlpdkjaaDoor.Bs
